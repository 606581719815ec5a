import unittest

from beatrows import errors
from beatrows.errors import BeatError

from cases import BeatCase, no_texts

FIELDS = {
    "NoNumber": ["found"], "NoValue": ["found"], "NoName": ["found"], "NoTerm": ["found"],
    "NoEquation": ["found"], "NoNode": ["found"], "NoProgram": ["found"], "NoText": ["at"],
    "Twice": ["name"], "Unknown": ["name"], "NoOut": ["name"], "NoRead": ["name"],
    "TooMany": ["many"], "NoFit": ["paper"], "NoClock": ["name"], "Ring": ["paper"],
    "Hidden": ["name", "other"], "NoArgs": ["name", "many"], "NoCall": ["name"],
    "NoInput": ["name", "beat"], "NotYet": ["name", "other"], "NoBeats": ["found"],
    "NoCells": ["found"], "NoOrder": ["found"], "NoLine": ["line"],
}


class ErrorsTest(BeatCase):
    def test_just_the_listed_classes_are_there(self):
        found = [name for name, thing in vars(errors).items() if isinstance(thing, type)]
        self.assertEqual(sorted(found), sorted([*FIELDS, "BeatError"]))
        self.assertEqual(len(FIELDS), 25)

    def test_each_stands_straight_under_beat_error(self):
        self.assertEqual(BeatError.__bases__, (ValueError,))
        for name in FIELDS:
            kind = getattr(errors, name)
            self.assertEqual(kind.__bases__, (BeatError,), name)
            self.assertEqual(kind.__subclasses__(), [], name)

    def test_beat_error_is_made_of_one_text(self):
        self.assertIsInstance(BeatError("text"), ValueError)
        with self.assertRaises(TypeError):
            BeatError()
        with self.assertRaises(TypeError):
            BeatError("one", "two")

    def test_fields_have_the_listed_names_in_the_listed_order(self):
        for name, fields in FIELDS.items():
            things = [[field] for field in fields]
            refusal = getattr(errors, name)(*things)
            self.assertEqual(list(vars(refusal)), fields, name)
            for field, thing in zip(fields, things):
                self.assertIs(getattr(refusal, field), thing, name)

    def test_any_things_are_kept_as_they_are(self):
        for name, fields in FIELDS.items():
            for thing in [*no_texts(), "", "a", "A", "a" * 20000]:
                refusal = getattr(errors, name)(*[thing for _ in fields])
                for field in fields:
                    self.assertIs(getattr(refusal, field), thing)

    def test_what_is_changed_behind_is_seen_changed(self):
        for name, fields in FIELDS.items():
            things = [[field, {}] for field in fields]
            refusal = getattr(errors, name)(*things)
            for field, thing in zip(fields, things):
                thing.append("more")
                thing[1]["more"] = 1
                self.assertEqual(getattr(refusal, field), [field, {"more": 1}, "more"])

    def test_each_is_made_of_just_as_many_things_as_it_has_fields(self):
        for name, fields in FIELDS.items():
            for many in (len(fields) - 1, len(fields) + 1):
                with self.assertRaises(TypeError):
                    getattr(errors, name)(*range(many))

    def test_each_is_raised_and_caught_by_name(self):
        for name, fields in FIELDS.items():
            kind = getattr(errors, name)
            for caught in (kind, BeatError, ValueError):
                with self.assertRaises(caught):
                    raise kind(*fields)


if __name__ == "__main__":
    unittest.main()
