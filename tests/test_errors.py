"""Promise 10: the errors, their fields and their base classes."""

import unittest

from staycounts import errors

BASES = {"CountError": ValueError, "SearchError": LookupError, "LimitError": ArithmeticError}
FIELDS = {
    "InvalidCounts": ("CountError", ("tick",)),
    "NotCounts": ("CountError", ("value",)),
    "InvalidTick": ("CountError", ("tick",)),
    "InvalidNumber": ("CountError", ("number",)),
    "InvalidText": ("CountError", ("text",)),
    "InvalidStay": ("CountError", ("index",)),
    "InvalidHistory": ("CountError", ("history",)),
    "InvalidName": ("CountError", ("name",)),
    "InvalidLength": ("CountError", ("length",)),
    "InvalidDoors": ("CountError", ("index",)),
    "InvalidDeed": ("CountError", ("index",)),
    "InvalidCommand": ("CountError", ("command",)),
    "Impossible": ("SearchError", ("word", "tick")),
    "NotKnown": ("SearchError", ("stay",)),
    "LimitBroken": ("SearchError", ()),
    "NothingToUndo": ("SearchError", ()),
    "TooMany": ("LimitError", ("limit",)),
}
VALUES = (None, True, -1, 60, "text", "", (0, 3), [1], {"a": 1}, object(), (1, "a", None))


class ErrorsTest(unittest.TestCase):
    def test_there_are_17_errors_and_three_base_classes(self):
        self.assertEqual(len(FIELDS), 17)
        for name in [*BASES, *FIELDS]:
            self.assertEqual(getattr(errors, name).__module__, "staycounts.errors")
            self.assertEqual(getattr(errors, name).__name__, name)

    def test_base_classes_derive_from_errors_of_python(self):
        for name, builtin in BASES.items():
            self.assertEqual(getattr(errors, name).__bases__, (builtin,))

    def test_each_error_has_its_base_class(self):
        for name, (base, _) in FIELDS.items():
            with self.subTest(name):
                self.assertEqual(getattr(errors, name).__bases__, (getattr(errors, base),))

    def test_an_error_belongs_to_no_other_class(self):
        for name, (base, fields) in FIELDS.items():
            error = getattr(errors, name)(*range(len(fields)))
            for other in [*BASES, *FIELDS]:
                with self.subTest(name, other=other):
                    self.assertEqual(isinstance(error, getattr(errors, other)), other in (name, base))

    def test_an_error_belongs_to_one_error_of_python(self):
        for name, (base, fields) in FIELDS.items():
            error = getattr(errors, name)(*range(len(fields)))
            for builtin in BASES.values():
                self.assertEqual(isinstance(error, builtin), builtin is BASES[base])

    def test_fields_by_position(self):
        for name, (_, fields) in FIELDS.items():
            for value in VALUES:
                values = [(value, k) for k, _ in enumerate(fields)]
                error = getattr(errors, name)(*values)
                self.assertEqual([getattr(error, field) for field in fields], values)

    def test_fields_by_name(self):
        for name, (_, fields) in FIELDS.items():
            for value in VALUES:
                named = {field: (value, k) for k, field in enumerate(fields)}
                error = getattr(errors, name)(**named)
                self.assertEqual({field: getattr(error, field) for field in fields}, named)

    def test_fields_are_the_very_values(self):
        value = [object()]
        self.assertIs(errors.NotCounts(value).value, value)
        self.assertIs(errors.InvalidTick(True).tick, True)
        self.assertIs(errors.InvalidStay(index=0).index, 0)

    def test_fields_of_impossible_are_in_order(self):
        error = errors.Impossible("present", 1)
        self.assertEqual([error.word, error.tick], ["present", 1])
        error = errors.Impossible(tick=2, word="arrivals")
        self.assertEqual([error.word, error.tick], ["arrivals", 2])
        error = errors.Impossible("departures", tick=3)
        self.assertEqual([error.word, error.tick], ["departures", 3])

    def test_errors_can_be_raised_caught_and_shown(self):
        for name, (base, fields) in FIELDS.items():
            with self.assertRaises(getattr(errors, base)) as caught:
                raise getattr(errors, name)(*VALUES[4:4 + len(fields)])
            self.assertIsInstance(str(caught.exception), str)

    def test_a_missing_field_is_refused(self):
        for name, (_, fields) in FIELDS.items():
            if fields:
                with self.assertRaises(TypeError):
                    getattr(errors, name)(*fields[1:])
                with self.assertRaises(TypeError):
                    getattr(errors, name)(*fields, "more")
