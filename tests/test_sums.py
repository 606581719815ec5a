import unittest

from beatrows.sums import contrary, ops_told, reckoned

from cases import BeatCase

OPS = ["+", "-", "*", "/", "mod", "<", "=", "&", "|"]
NUMBER_OPS = ["+", "-", "*", "/", "mod", "<"]
TOP = 10 ** 9


class OpsTest(BeatCase):
    def test_operators_in_their_order(self):
        self.assert_new_list(ops_told, OPS)


class ReckonedTest(BeatCase):
    def check(self, rows):
        for op, one, other, wanted in rows:
            with self.subTest(op=op, one=one, other=other):
                self.assert_exact(reckoned(op, one, other), wanted)

    def test_plus_minus_times(self):
        self.check([
            ("+", 2, 3, (5, None)), ("+", -2, 2, (0, None)), ("+", TOP, 0, (TOP, None)),
            ("-", 2, 3, (-1, None)), ("-", 3, 2, (1, None)), ("-", 0, TOP, (-TOP, None)),
            ("*", 2, -3, (-6, None)), ("*", 0, TOP, (0, None)), ("*", 100000, 10000, (TOP, None)),
        ])

    def test_numbers_beyond_the_bounds_are_great(self):
        self.check([
            ("+", TOP, 1, (None, "great")), ("+", -TOP, -1, (None, "great")), ("+", TOP, -1, (TOP - 1, None)),
            ("-", -TOP, 1, (None, "great")), ("-", TOP, -1, (None, "great")),
            ("*", TOP, 2, (None, "great")), ("*", -TOP, TOP, (None, "great")), ("*", -TOP, -1, (TOP, None)),
            ("/", -TOP, -1, (TOP, None)), ("/", TOP, -1, (-TOP, None)),
        ])

    def test_quotients_and_rests_with_all_signs(self):
        self.check([
            ("/", 7, 2, (3, None)), ("/", -7, 2, (-4, None)), ("/", 7, -2, (-4, None)), ("/", -7, -2, (3, None)),
            ("mod", 7, 2, (1, None)), ("mod", -7, 2, (1, None)), ("mod", 7, -2, (-1, None)),
            ("mod", -7, -2, (-1, None)), ("mod", -7, 3, (2, None)), ("mod", 7, -3, (-2, None)),
            ("/", 6, -2, (-3, None)), ("mod", 6, -2, (0, None)), ("mod", -6, 2, (0, None)),
            ("/", 0, -5, (0, None)), ("mod", 0, -5, (0, None)), ("/", 1, TOP, (0, None)), ("/", -1, TOP, (-1, None)),
        ])

    def test_rest_belongs_to_quotient(self):
        for one in range(-9, 10):
            for other in [*range(-5, 0), *range(1, 6)]:
                part, rest = reckoned("/", one, other)[0], reckoned("mod", one, other)[0]
                self.assertEqual(part * other + rest, one)
                self.assertTrue(0 <= rest < other or other < rest <= 0)

    def test_nought(self):
        for op in ("/", "mod"):
            for one in (0, 1, -1, TOP):
                self.assert_exact(reckoned(op, one, 0), (None, "nought"))
        self.check([("+", 1, 0, (1, None)), ("-", 1, 0, (1, None)), ("*", 1, 0, (0, None)), ("<", 1, 0, (False, None))])

    def test_less_and_same(self):
        self.check([
            ("<", 1, 2, (True, None)), ("<", 2, 2, (False, None)), ("<", 3, 2, (False, None)),
            ("<", -3, 2, (True, None)), ("<", 2, -3, (False, None)),
            ("=", 2, 2, (True, None)), ("=", 2, 3, (False, None)), ("=", -2, 2, (False, None)),
            ("=", True, True, (True, None)), ("=", False, False, (True, None)),
            ("=", True, False, (False, None)), ("=", False, True, (False, None)),
        ])

    def test_both_and_one_of_both(self):
        for one in (True, False):
            for other in (True, False):
                self.assert_exact(reckoned("&", one, other), (one and other, None))
                self.assert_exact(reckoned("|", one, other), (one or other, None))

    def test_kind_of_operators_over_numbers(self):
        for op in NUMBER_OPS:
            for one, other in [(True, 1), (1, True), (True, False), (False, 0), (0, False), (False, False)]:
                with self.subTest(op=op, one=one, other=other):
                    self.assert_exact(reckoned(op, one, other), (None, "kind"))

    def test_kind_of_operators_over_truths(self):
        for op in ("&", "|"):
            for one, other in [(1, True), (True, 1), (0, 1), (0, False), (True, 0), (False, 1), (False, 0)]:
                with self.subTest(op=op, one=one, other=other):
                    self.assert_exact(reckoned(op, one, other), (None, "kind"))

    def test_kind_of_same(self):
        for one, other in [(1, True), (True, 1), (0, False), (False, 0), (5, False)]:
            self.assert_exact(reckoned("=", one, other), (None, "kind"))

    def test_kind_comes_ahead_of_nought(self):
        self.check([
            ("/", True, 0, (None, "kind")), ("mod", False, 0, (None, "kind")),
            ("/", 1, False, (None, "kind")), ("mod", 1, False, (None, "kind")),
            ("*", True, TOP, (None, "kind")), ("+", TOP, True, (None, "kind")),
        ])

    def test_contrary(self):
        self.assert_exact(contrary(True), (False, None))
        self.assert_exact(contrary(False), (True, None))
        for one in (0, 1, -1, 2, TOP, -TOP):
            self.assert_exact(contrary(one), (None, "kind"))


if __name__ == "__main__":
    unittest.main()
