import unittest

from beatrows.errors import NoOut, NoRead, NoText, Twice, Unknown
from beatrows.nodes import Node, node_of, same_node
from beatrows.nodetext import read_node, read_nodes, show_node, show_nodes

from cases import BeatCase, no_texts, wild_texts

A = ("name", "a")
ALL_KINDS = Node("n", ["a", "b"], ["x", "y"], [
    ("plain", "c", ("pick", ("two", "<", A, ("value", -5)), ("value", True), ("not", ("name", "d")))),
    ("when", "x", "a", "c"),
    ("before", "y", -1000000000, "b"),
    ("hold", "d", False, "x"),
    ("like", "e", 1, "x"),
    ("call", ("p", "q"), "m", ("a", "b", "a")),
    ("same", ("a", "b", "a")),
    ("like", "f", True, "x"),
])
ALL_TEXT = """node n in a b out x y
c = ( ( a < -5 ) ? true : ( ! d ) )
x = a when c
y = before -1000000000 b
d = hold false x
e = 1 like x
p q = call m a b a
same a b a
f = true like x"""
SMALL = Node("m", ["a"], ["x"], [("plain", "x", A)])
SMALL_TEXT = "node m in a out x\nx = a"


class ShownTest(BeatCase):
    def test_rows_of_all_kinds(self):
        self.assertEqual(show_node(ALL_KINDS), ALL_TEXT)
        self.assertEqual(show_node(SMALL), SMALL_TEXT)

    def test_the_documents_rows(self):
        node = Node("n", ["a", "c"], ["x"], [("when", "y", "a", "c"), ("hold", "x", -3, "y")])
        self.assertEqual(show_node(node), "node n in a c out x\ny = a when c\nx = hold -3 y")

    def test_names_with_points(self):
        node = Node("n", ["a.b"], ["x.y"], [("plain", "x.y", ("name", "a.b")), ("call", ("c.d",), "m", ("x.y",))])
        self.assertEqual(show_node(node), "node n in a.b out x.y\nx.y = a.b\nc.d = call m x.y")

    def test_several_nodes(self):
        nodes = [SMALL, ALL_KINDS, SMALL]
        self.assertEqual(show_nodes(nodes), "\n".join([SMALL_TEXT, ALL_TEXT, SMALL_TEXT]))
        self.assertEqual(len(nodes), 3)
        self.assertEqual(show_nodes([SMALL]), SMALL_TEXT)

    def test_no_nodes(self):
        self.assertEqual(show_nodes([]), "")


class ReadTest(BeatCase):
    def test_one_node(self):
        for node in (ALL_KINDS, SMALL):
            read = read_node(show_node(node))
            self.assertIs(type(read), Node)
            self.assertTrue(same_node(read, node))
            self.assert_exact(read.told(), node.told())

    def test_several_nodes(self):
        for nodes in ([SMALL], [ALL_KINDS], [SMALL, ALL_KINDS], [ALL_KINDS, SMALL, SMALL, ALL_KINDS]):
            read = read_nodes(show_nodes(nodes))
            self.assertIs(type(read), list)
            self.assert_exact([node.told() for node in read], [node.told() for node in nodes])

    def test_told_lists_are_new(self):
        self.assertEqual(read_nodes(""), [])
        told = read_nodes(SMALL_TEXT)
        told.clear()
        self.assertEqual(len(read_nodes(SMALL_TEXT)), 1)
        read_nodes("").append(1)
        self.assertEqual(read_nodes(""), [])

    def test_a_row_mentions_and_tells_whatever_names_there_are(self):
        text = "node n in abcdefgh out x\nx = ( x = abcdefgh )\ny = ( ( x = y ) = ( ! x ) )"
        self.assertEqual(show_node(read_node(text)), text)

    def test_values_are_read_as_they_are(self):
        text = "node n in a out x\nx = before true a\ny = before 1 a\nz = 0 like a\nw = false like a"
        rows = [("before", "x", True, "a"), ("before", "y", 1, "a"), ("like", "z", 0, "a"), ("like", "w", False, "a")]
        self.assert_exact([row.told() for row in read_node(text).rows()], rows)


class RefusedTest(BeatCase):
    def refused_at(self, at, text):
        self.assert_refused(NoText, {"at": at}, read_node, text)
        self.assert_refused(NoText, {"at": at}, read_nodes, text)

    def test_no_texts(self):
        for thing in no_texts():
            self.refused_at(0, thing)

    def test_text_without_signs(self):
        self.assertEqual(read_nodes(""), [])
        self.assert_refused(NoText, {"at": 0}, read_node, "")

    def test_wild_texts(self):
        for text in wild_texts():
            if text:
                self.refused_at(0, text)

    def test_the_first_row_is_a_nodes_row(self):
        for text in ["x = a", "same a b", "x = a\n" + SMALL_TEXT, "x = before 1 a", "\n" + SMALL_TEXT, "x = call n a"]:
            self.refused_at(0, text)

    def test_nodes_rows_that_cannot_stand(self):
        for row in [
            "node", "node n", "node n in", "node n in a", "node n in a out", "node n in out x", "node n out x",
            "node n out x in a", "node in a out x", "node n a out x", "node n in a x", "node n m in a out x",
            "node N in a out x", "node n.m in a out x", "node node in a out x", "node n in A out x",
            "node n in a.b out x", "node n in a out x.y", "node n in a out X", "node n in in out x",
            "node n in a out out x", "node n in a out x out", "node n in a out x out y", "node n in a in b out x",
            "node n in a out x in", "node n in mod out x", "node n in a out true", "node n in 1 out x",
            "node n in a out x ", " node n in a out x", "node  n in a out x", "node n in  a out x",
            "node n in a  out x", "node n in a out  x", "node n in a, b out x", "Node n in a out x",
            "node abcdefghi in a out x", "node n in abcdefghi out x", "node out in a out x", "node in in a out x",
            "node n in a out x =", "node n in a out x = a", "node n call a out x", "node n In a Out x",
        ]:
            self.refused_at(0, row)
            self.refused_at(0, row + "\nx = a")
            self.refused_at(2, SMALL_TEXT + "\n" + row)

    def test_other_rows_that_cannot_stand(self):
        for row in [
            "", " ", "x", "x =", "x = ", " x = a", "x = a ", "x  = a", "x =  a", "x= a", "x=a", "= a", "x a", "x == a",
            "x = a b", "x = ( a )", "x = ( a + b", "x = a + b", "x = ( a + b ) c", "x = a.b", "x.y = a", "X = a",
            "x = A", "true = a", "mod = a", "1 = a", "x y = a", "x = ( a ? b )", "x = -0", "x = 07", "x = 1000000001",
            "x = ( ! ( ! ( ! ( ! ( ! a ) ) ) ) )", "x = not a", "x = ! a", "x := a", "x = = a", "x = x = a",
            "x = before a", "x = before 1", "x = before 1 a b", "x = before a 1", "x = before a a", "x = before 1 1",
            "x = before -0 a", "x = before 1 a.b", "x = before 1000000001 a", "x y = before 1 a", "= before 1 a",
            "x = before  1 a", "x = before 1 a ", "x = Before 1 a", "x = before 1 before", "x = before True a",
            "x = 1 before a", "x.y = before 1 a", "before = before 1 a", "x = before when a", "x = before like a",
            "x = a when", "x = when a", "x = when a c", "x = a when c d", "x = a when 1", "x = 1 when a",
            "x = a when true", "x = a.b when c", "x = a when c.d", "x y = a when c", "x = a  when c", "x = a When c",
            "x = ( ! a ) when c", "x = a when ( ! c )", "x = a when when", "x.y = a when c", "= a when c",
            "x = hold a", "x = hold 1", "x = hold 1 a b", "x = hold a a", "x = hold 1 1", "x = hold +1 a",
            "x = hold 1 a.b", "x y = hold 1 a", "x = 1 hold a", "x = hold hold a", "x.y = hold 1 a", "= hold 1 a",
            "x = like a", "x = 1 like", "x = 1 like a b", "x = a like 1", "x = a like a", "x = 1 like 1",
            "x = 01 like a", "x = 1 like a.b", "x y = 1 like a", "x = like 1 a", "x.y = 1 like a", "= 1 like a",
            "x = call", "x = call n", "x = call a.b c", "x = call n a.b", "x.y = call n a", "= call n a", "x call n a",
            "x = call N a", "x = call node a", "x = call n 1", "x = call n ( a )", "x = call n a ", "x = call  n a",
            "x  y = call n a", "x, y = call n a", "x y = call n a true", "1 = call n a", "x = call call a",
            "x = call n = a", "x = n call a", "x y = Call n a", "call = call n a", "x = y = call n a",
            "same", "same a", "same a ", "same  a b", "same a  b", "same a b ", " same a b", "same a b.c", "same a 1",
            "same a true", "same a A", "same a = b", "same = a", "same = a b", "x = same a b", "Same a b",
            "same same a", "a same b", "in a out x", "out x", "desk", "x = a\t", "x = ( a % b )", "x = ( a > b )",
            "# x", "x = a;",
        ]:
            self.refused_at(2, SMALL_TEXT + "\n" + row)
            self.refused_at(1, SMALL_TEXT.replace("x = a", row))
            self.refused_at(4, "\n".join([SMALL_TEXT, "y = a", "z = a", row, "", SMALL_TEXT, row]))

    def test_a_line_feed_at_the_end(self):
        self.refused_at(2, SMALL_TEXT + "\n")
        self.refused_at(9, ALL_TEXT + "\n")
        self.refused_at(2, SMALL_TEXT + "\n\n" + SMALL_TEXT)
        self.refused_at(0, "\n")

    def test_the_first_of_several_rows_is_told(self):
        self.refused_at(1, "node n in a out x\n\nx = \nnode\n")
        self.refused_at(0, "node\nx")

    def test_a_second_node_where_one_is_read(self):
        text = SMALL_TEXT + "\n" + ALL_TEXT
        self.assert_refused(NoText, {"at": 2}, read_node, text)
        self.assertEqual(len(read_nodes(text)), 2)
        self.assert_refused(NoText, {"at": 1}, read_node, "node n in a out x\nnode n in a out x\nx = a")
        self.assert_refused(NoText, {"at": 9}, read_node, ALL_TEXT + "\n" + SMALL_TEXT + "\n\n")
        self.assert_refused(NoText, {"at": 11}, read_nodes, ALL_TEXT + "\n" + SMALL_TEXT + "\n\n")
        # A row that can't stand comes first where it stands ahead.
        self.assert_refused(NoText, {"at": 1}, read_node, "node n in a out x\n\n" + SMALL_TEXT)


class RefusedNodesTest(BeatCase):
    def refused(self, kind, fields, text):
        self.assert_refused(kind, fields, read_node, text)
        self.assert_refused(kind, fields, read_nodes, text)
        self.assert_refused(kind, fields, read_nodes, SMALL_TEXT + "\n" + text)
        self.assert_refused(kind, fields, read_nodes, text + "\n" + SMALL_TEXT)

    def test_good_rows_whose_node_is_refused(self):
        self.refused(Twice, {"name": "a"}, "node n in b a a out x\nx = a")
        self.refused(Twice, {"name": "x"}, "node n in a out x x\nx = a")
        self.refused(NoRead, {"name": "y"}, "node n in a out x\nx = a\ny = 1")
        self.refused(NoRead, {"name": "x"}, "node n in a out x\nx = ( ! true )")
        self.refused(Twice, {"name": "x"}, "node n in a out x\nx = a\nx = before 1 a")
        self.refused(Twice, {"name": "x"}, "node n in a out x\nx x = call m a")
        self.refused(Twice, {"name": "a"}, "node n in a out a\na = 1 like a")
        self.refused(Unknown, {"name": "u"}, "node n in a out x\nx = ( a + u )")
        self.refused(Unknown, {"name": "u"}, "node n in a out x\nx = a\nsame u u")
        self.refused(Unknown, {"name": "u"}, "node n in a out x\nx y = call m a u u")
        self.refused(NoOut, {"name": "y"}, "node n in a out x y\nx = a")
        self.refused(NoOut, {"name": "x"}, "node n in a out x")

    def test_rows_are_looked_at_ahead_of_nodes(self):
        for at, text in [(2, "node n in a a out x\nx = a\n"), (3, "node n in a a out x\nx = a\nnode m in a out x\ny")]:
            self.assert_refused(NoText, {"at": at}, read_nodes, text)
        self.assert_refused(NoText, {"at": 2}, read_node, "node n in a a out x\nx = a\n" + SMALL_TEXT)

    def test_the_first_of_two_nodes_is_refused_first(self):
        one, other = "node n in a out x\nx = u", "node m in a a out x\nx = a"
        self.assert_refused(Unknown, {"name": "u"}, read_nodes, one + "\n" + other)
        self.assert_refused(Twice, {"name": "a"}, read_nodes, other + "\n" + one)
        self.assert_refused(NoOut, {"name": "x"}, read_nodes, "node n in a out x\nnode n in a out x")

    def test_nodes_of_one_name_may_be_read(self):
        self.assertEqual([node.name for node in read_nodes(SMALL_TEXT + "\n" + SMALL_TEXT)], ["m", "m"])

    def test_names_with_points_are_written_but_not_read(self):
        node = node_of(("n", ("a.b",), ("x",), (("plain", "x", ("name", "a.b")),)))
        self.assert_refused(NoText, {"at": 0}, read_node, show_node(node))
        node = node_of(("n", ("a",), ("x",), (("plain", "x", A), ("like", "x.y", 1, "a"))))
        self.assert_refused(NoText, {"at": 2}, read_node, show_node(node))


if __name__ == "__main__":
    unittest.main()
