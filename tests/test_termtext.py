import unittest

from beatrows.errors import NoText
from beatrows.sums import ops_told
from beatrows.termtext import read_term
from beatrows.terms import Name, Not, Pick, Two, Value

from cases import BeatCase, nested, no_texts

# Words that stand nowhere in the text of a term.
NOWHERE = [
    "", "A", "a.b", ".", "node", "in", "before", "when", "hold", "like", "same", "call", "beat", "desk", "out",
    "-0", "07", "+7", "1000000001", "-1000000001", "9" * 5000, "abcdefghi", "a\n", "\n", "((", "()", "True", "==",
    "a1", "!!", "::", "--1", "a+b", "(a",
]
TEXTS = [
    "a", "abcdefgh", "0", "-3", "1000000000", "true", "false",
    "( a + -3 )", "( ! c )", "( c ? a : b )", "( ( ! c ) ? x : ( x + 1 ) )",
    "( a - -1 )", "( -1 - a )", "( a mod 2 )", "( true & false )", "( ( a ? b : c ) ? ( ! d ) : ( e < 0 ) )",
    "( a ? ( b ? c : d ) : ( ! ( a = b ) ) )", "( ! ( ! ( ! ( ! a ) ) ) )",
    "( ( ( ( a + b ) + c ) + d ) + e )", "( a | ( b | ( c | ( d | true ) ) ) )",
    "( a ? b : ( c ? d : ( e ? f : ( g ? h : i ) ) ) )", "( ( ( ( a ? b : c ) ? d : e ) ? f : g ) ? h : i )",
    "( a ? ( b ? ( c ? ( d ? e : f ) : g ) : h ) : i )",
]
TERM_BEGINS = ["a", "true", "5", "-5"]


class ReadTest(BeatCase):
    def refused_at(self, at, text):
        self.assert_refused(NoText, {"at": at}, read_term, text)

    def test_each_kind_is_read(self):
        a, c, x = Name("a"), Name("c"), Name("x")
        for text, term in [
            ("a", a), ("7", Value(7)), ("-7", Value(-7)), ("0", Value(0)), ("1", Value(1)),
            ("true", Value(True)), ("false", Value(False)),
            ("( a + -3 )", Two("+", a, Value(-3))), ("( ! c )", Not(c)), ("( c ? a : x )", Pick(c, a, x)),
            ("( ( ! c ) ? x : ( x + 1 ) )", Pick(Not(c), x, Two("+", x, Value(1)))),
        ]:
            self.assertIs(type(read_term(text)), type(term))
            self.assert_exact(read_term(text).told(), term.told())
        for op in ops_told():
            self.assertEqual(read_term(f"( a {op} c )").told(), Two(op, a, c).told())

    def test_written_and_read_back(self):
        for text in TEXTS:
            self.assertEqual(read_term(text).words(), text)
        a, no = Name("a"), Value(False)
        for term in [
            nested(4, a, Not), nested(4, no, lambda inner: Two("<", inner, a)),
            nested(4, a, lambda inner: Pick(inner, inner, inner)), Pick(Value(1), Value(True), Value(0)),
        ]:
            self.assert_exact(read_term(term.words()).told(), term.told())

    def test_all_small_terms_are_written_and_read_back(self):
        atoms = [Name("a"), Name("b"), Value(-1), Value(1), Value(True)]
        low = [*atoms, Not(atoms[0]), Two("+", atoms[0], atoms[3]), Pick(atoms[4], atoms[1], atoms[2])]
        for one in low:
            self.assert_exact(read_term(Not(one).words()).told(), Not(one).told())
            for other in low:
                for term in [Two(op, one, other) for op in ops_told()] + [Pick(by, one, other) for by in low]:
                    self.assert_exact(read_term(term.words()).told(), term.told())

    def test_no_texts(self):
        for thing in no_texts():
            self.refused_at(0, thing)

    def test_text_without_signs(self):
        self.refused_at(0, "")

    def test_a_word_that_can_stand_nowhere_is_told_at_each_place(self):
        for text in TEXTS:
            words = text.split(" ")
            for at in range(len(words) + 1):
                for word in NOWHERE:
                    self.refused_at(at, " ".join([*words[:at], word, *words[at:]]))
                    self.refused_at(at, " ".join([*words[:at], word, *words[at + 1:]]))

    def test_where_only_words_are_lacking_their_number_is_told(self):
        for text in TEXTS:
            words = text.split(" ")
            for many in range(1, len(words)):
                self.refused_at(many, " ".join(words[:many]))

    def test_words_behind_a_whole_term(self):
        for text in TEXTS:
            many = len(text.split(" "))
            for more in ["a", "5", ")", "(", "+", "?", ":", "!", "", "node", "a b"]:
                self.refused_at(many, f"{text} {more}")

    def test_words_that_stand_elsewhere(self):
        for at, place, right in [
            (0, "", TERM_BEGINS + ["("]),
            (1, "( ", TERM_BEGINS + ["(", "!"]),
            (2, "( ! ", TERM_BEGINS + ["("]),
            (3, "( ! a ", [")"]),
            (2, "( a ", ops_told() + ["?"]),
            (3, "( a + ", TERM_BEGINS + ["("]),
            (4, "( a + b ", [")"]),
            (3, "( a ? ", TERM_BEGINS + ["("]),
            (4, "( a ? b ", [":"]),
            (5, "( a ? b : ", TERM_BEGINS + ["("]),
            (6, "( a ? b : c ", [")"]),
            (5, "( ( ! a ) ", ops_told() + ["?"]),
            (4, "( ( ( ( ", TERM_BEGINS + ["!"]),
            (5, "( ( ( ( ! ", TERM_BEGINS),
            (6, "( ( ( ( a + ", TERM_BEGINS),
            (6, "( ( ( ( a ? ", TERM_BEGINS),
            (8, "( ( ( ( a ? b : ", TERM_BEGINS),
            (9, "( ! ( ! ( ! ( a = ", TERM_BEGINS),
        ]:
            for word in [*TERM_BEGINS, "(", ")", "!", "?", ":", *ops_told()]:
                text = place + word
                if text in [*TERM_BEGINS, "( ! a )", "( a + b )", "( a ? b : c )"]:
                    self.assertEqual(read_term(text).words(), text)
                else:
                    self.refused_at(at + 1 if word in right else at, text)

    def test_a_fifth_bracket(self):
        self.refused_at(4, "( ( ( ( ( a + b ) + c ) + d ) + e ) + f )")
        self.refused_at(8, "( ! ( ! ( ! ( ! ( ! a ) ) ) ) )")
        self.refused_at(12, "( a + ( b + ( c + ( d + ( e + f ) ) ) ) )")
        self.refused_at(20, "( a ? b : ( c ? d : ( e ? f : ( g ? h : ( i + 1 ) ) ) ) )")
        self.refused_at(5, "( ( ( ( ! ( a = b ) ) ) ) )")
        self.assertEqual(read_term("( ( ! ( ! ( ! a ) ) ) = ( ! ( ! ( ! a ) ) ) )").levels(), 5)

    def test_blanks(self):
        self.refused_at(0, " ")
        self.refused_at(0, "  ")
        self.refused_at(0, " a")
        self.refused_at(1, "a ")
        self.refused_at(1, "(  a + b )")
        self.refused_at(2, "( a  + b )")
        self.refused_at(3, "( a +  b )")
        self.refused_at(4, "( a + b  )")
        self.refused_at(5, "( a + b ) ")
        self.refused_at(0, " ( a + b )")
        self.refused_at(0, "a\n")
        self.refused_at(0, "\n")
        self.refused_at(1, "( a\n+ b )")
        self.refused_at(2, "( a \n + b )")

    def test_long_texts(self):
        self.refused_at(4, "( " * 9999)
        self.refused_at(0, " " * 20000)
        self.refused_at(1, "a " * 9999)
        self.refused_at(0, "(" * 20000)


if __name__ == "__main__":
    unittest.main()
