"""Points 4 and 10: the refusals and Fault."""

import unittest

from eachstepsame import errors
from eachstepsame.errors import (
    Fault, NoBudget, NoCode, NoFit, NoInput, NoMain, NoName, NoPass, NoRegisters, StepError, Twice,
)
from tests.helper import shown, things

MADE = [
    (NoName, {"name": "abc", "place": 7}),
    (Twice, {"name": "x", "place": 0}),
    (NoFit, {"wants": 3, "gives": 12}),
    (NoMain, {}),
    (NoInput, {"place": 2}),
    (NoCode, {"function": "main", "block": 4}),
    (NoBudget, {}),
    (NoRegisters, {}),
    (NoPass, {"name": "fold"}),
    (Fault, {"name": "zero"}),
]


class Errors(unittest.TestCase):
    def test_made_of_what_is_told_with_these_fields(self):
        for error, fields in MADE:
            made = error(*fields.values())
            self.assertEqual({name: getattr(made, name) for name in fields}, fields, error)
            self.assertEqual(vars(made), fields, error)

    def test_arguments_have_the_names_of_the_fields(self):
        for error, fields in MADE:
            self.assertEqual(vars(error(**fields)), fields, error)

    def test_made_of_neither_more_nor_less(self):
        for error, fields in MADE:
            values = list(fields.values())
            with self.assertRaises(TypeError):
                error(*values, "more")
            if values:
                with self.assertRaises(TypeError):
                    error(*values[1:])

    def test_input_place_may_be_none(self):
        self.assertIsNone(NoInput(None).place)

    def test_each_stands_straight_under_step_error(self):
        for error, fields in MADE:
            self.assertEqual(error.__bases__, (StepError,))
        self.assertEqual(StepError.__bases__, (ValueError,))

    def test_there_are_just_ten(self):
        found = [thing for thing in vars(errors).values() if isinstance(thing, type)]
        self.assertEqual(len(found), 11)
        self.assertEqual(len(MADE), 10)

    def test_caught_as_itself_step_error_and_value_error_alone(self):
        for error, fields in MADE:
            for catcher in [error, StepError, ValueError]:
                with self.assertRaises(catcher):
                    raise error(*fields.values())
            for other, ignored in MADE:
                if other is not error:
                    self.assertNotIsInstance(error(*fields.values()), other)

    def test_two_of_a_class_have_their_own_values(self):
        one, other = Fault("zero"), Fault("great")
        self.assertEqual((one.name, other.name), ("zero", "great"))

    def test_no_pass_has_any_thing_as_its_name(self):
        for thing in things():
            self.assertEqual(shown(NoPass(thing).name), shown(thing))

    def test_what_is_changed_later_in_a_thing_is_not_seen(self):
        inner, table = [1], {"a": [2]}
        thing = [inner, (table,)]
        made = NoPass(thing)
        self.assertEqual(thing, [[1], ({"a": [2]},)])
        inner.append(3)
        table["a"].append(4)
        table["b"] = 5
        thing.append(6)
        self.assertEqual(made.name, [[1], ({"a": [2]},)])


if __name__ == "__main__":
    unittest.main()
