import unittest

from beatrows.words import (
    each_once, is_name, is_pointed, is_value, is_whole, is_within, name_for, own_words, value_of, value_text,
)
from beatrows.errors import NoName

from cases import BeatCase, no_texts, wild_texts

OWN = "node in out before when hold like same call true false mod beat desk".split()
WHOLE = [0, 1, -1, 10 ** 9, 10 ** 9 + 1, -(10 ** 9), 10 ** 60 - 1, -(10 ** 60 - 1)]


class KindsTest(BeatCase):
    def test_whole_numbers(self):
        for thing in WHOLE:
            self.assertIs(is_whole(thing), True)
        for thing in [*no_texts(), *wild_texts(), "1"]:
            wanted = type(thing) is int
            self.assertIs(is_whole(thing), wanted)

    def test_truths_are_no_whole_numbers(self):
        self.assertIs(is_whole(True), False)
        self.assertIs(is_whole(False), False)
        self.assertIs(is_within(True, 0, 5), False)
        self.assertIs(is_within(False, 0, 5), False)

    def test_within_has_both_bounds(self):
        found = [thing for thing in range(-9, 9) if is_within(thing, -3, 4)]
        self.assertEqual(found, [-3, -2, -1, 0, 1, 2, 3, 4])
        self.assertIs(is_within(-3, -3, 4), True)
        self.assertIs(is_within(-4, -3, 4), False)
        self.assertIs(is_within(10 ** 29, 10 ** 29, 10 ** 29), True)
        self.assertIs(is_within(10 ** 60 - 1, 0, 10 ** 30 - 1), False)

    def test_none_is_within_where_the_low_bound_is_the_higher(self):
        for thing in range(-3, 9):
            self.assertIs(is_within(thing, 5, 1), False)

    def test_other_things_are_within_no_bounds(self):
        for thing in [*no_texts(), *wild_texts()]:
            if type(thing) is not int:
                self.assertIs(is_within(thing, -(10 ** 29), 10 ** 29), False)

    def test_values(self):
        for thing in [True, False, 0, 1, -1, 10 ** 9, -(10 ** 9)]:
            self.assertIs(is_value(thing), True)
        for thing in [10 ** 9 + 1, -(10 ** 9) - 1, 10 ** 60 - 1, None, "1", "true", [], [1], (1,), {1: 1}]:
            self.assertIs(is_value(thing), False)
        for thing in no_texts():
            if type(thing) not in (int, bool):
                self.assertIs(is_value(thing), False)


class NamesTest(BeatCase):
    def test_names(self):
        for name in ["a", "z", "x", "abcdefgh", "zzzzzzzz", "nodes", "ins", "truth", "value", "name", "not"]:
            self.assertIs(is_name(name), True, name)
            self.assertIs(is_pointed(name), True, name)

    def test_own_words_are_no_names(self):
        for word in OWN:
            self.assertIs(is_name(word), False, word)
            self.assertIs(is_pointed(word), False, word)
            self.assertIs(is_pointed("a." + word), False, word)
            self.assertIs(is_pointed(word + ".a"), False, word)

    def test_texts_that_are_no_names(self):
        for text in ["", "abcdefghi", "A", "aB", "a1", "1", "a_b", "a b", " a", "a ", "a\n", "-", "a-b", "`", "{"]:
            self.assertIs(is_name(text), False, text)
            self.assertIs(is_pointed(text), False, text)
        for text in wild_texts():
            self.assertIs(is_name(text), False, text[:9])
            self.assertIs(is_pointed(text), False, text[:9])

    def test_no_texts_are_no_names(self):
        for thing in no_texts():
            self.assertIs(is_name(thing), False)
            self.assertIs(is_pointed(thing), False)

    def test_pointed_names(self):
        for text in ["a.b", "a.b.c", "abcdefgh.abcdefgh", "a.a"]:
            self.assertIs(is_pointed(text), True, text)
            self.assertIs(is_name(text), False, text)
        for text in [".", "..", ".a", "a.", "a..b", ".a.b", "a.b.", "a.abcdefghi", "a.B", "a. b", "a,b", "a.1"]:
            self.assertIs(is_pointed(text), False, text)

    def test_pointed_names_have_at_most_eighty_signs(self):
        eighty = ".".join(["abcdefgh"] * 9)
        self.assertEqual(len(eighty), 80)
        self.assertIs(is_pointed(eighty), True)
        self.assertIs(is_pointed(eighty[:-1]), True)
        longer = ".".join(["abcdefgh"] * 8 + ["abcdef", "ab"])
        self.assertEqual(len(longer), 81)
        self.assertIs(is_pointed(longer), False)


class OwnWordsTest(BeatCase):
    def test_own_words_in_their_order(self):
        self.assert_new_list(own_words, OWN)


class ValueTextsTest(BeatCase):
    TEXTS = {
        "0": 0, "7": 7, "-7": -7, "10": 10, "100": 100, "-10": -10, "1000000000": 10 ** 9,
        "-1000000000": -(10 ** 9), "999999999": 10 ** 9 - 1, "true": True, "false": False,
        "1": 1, "-1": -1, "123456789": 123456789,
    }

    def test_values_are_written(self):
        for text, value in self.TEXTS.items():
            self.assertEqual(value_text(value), text)

    def test_values_are_read(self):
        for text, value in self.TEXTS.items():
            self.assert_exact(value_of(text), value)

    def test_texts_that_write_none(self):
        wrong = [
            "-0", "07", "-07", "00", "000", "+7", "+0", "1000000001", "-1000000001", "2000000000",
            "9999999999", "10000000000", "0000000001", " 7", "7 ", "7\n", "\n7", "- 7", "--7", "7-", "-",
            "", "True", "False", "TRUE", "true ", " true", "t", "1.0", "1_0", "0x1", "1e3", "a", "None",
            "-true", "9" * 5000, "-" + "9" * 5000, "0" * 5000, "1" + "0" * 19999, "1 0", "/", ":",
        ]
        for text in wrong:
            self.assertIsNone(value_of(text), text[:12])

    def test_no_texts_write_none(self):
        for thing in no_texts():
            self.assertIsNone(value_of(thing))


class HelpersTest(BeatCase):
    def test_each_once(self):
        self.assertEqual(each_once(["b", "a", "b", "c", "a"]), ["b", "a", "c"])
        self.assertEqual(each_once(()), [])

    def test_name_for(self):
        self.assertEqual(name_for("a", {"a": "b.c"}), "b.c")
        self.assert_refused(NoName, {"found": "a"}, name_for, "a", {})
        self.assert_refused(NoName, {"found": None}, name_for, "a", {"a": None})


if __name__ == "__main__":
    unittest.main()
