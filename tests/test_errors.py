"""Point 6 and the interface of bellrest/errors.py."""

import copy
import inspect
import pickle
import unittest

from bellrest import errors

LISTED = """
`InvalidMoment(value)`, `Backwards(first, second)`, `InvalidSpan(value)`, `InvalidTable(value)`,
`Unlike(expected, given)`, `EmptyLot(clocks)`, `InvalidGate(part, index)`, `UnknownName(name)`,
`InvalidText(line)`, `InvalidRow(index)`, `NotLet(index)`, `RestBlocked(state)`, `InvalidKind(value)`,
`BeyondCeiling(clock, limit)`, `UnlikeKinds(first, second)`, `InvalidHall(index)`, `TooMany(size)`,
`InvalidGoal(value)`, `InvalidSight(index)`, `NothingFits(index)`, `NotSettled(state, deed)`,
`InvalidFact(value)`, `Contradiction(core)`, `NothingToUndo()`, `NothingToRedo()`, `UnknownMark(name)`,
`InvalidGrain(value)`, `OffGrain(value)`
"""


def listed_errors():
    """Pairs of a class's name and the names of its parameters."""
    for text in LISTED.replace("\n", " ").split("`"):
        if "(" in text:
            name, _, rest = text.partition("(")
            yield name, [part for part in rest.rstrip(")").split(", ") if part]


class TestErrors(unittest.TestCase):
    def test_all_are_listed(self):
        names = [name for name, _ in listed_errors()]
        self.assertEqual(len(names), 28)
        classes = {name for name, value in vars(errors).items() if inspect.isclass(value)}
        self.assertEqual(classes, set(names) | {"BellError"})

    def test_bases(self):
        self.assertEqual(errors.BellError.__bases__, (ValueError,))
        for name, _ in listed_errors():
            self.assertEqual(getattr(errors, name).__bases__, (errors.BellError,))

    def test_no_one_is_a_subclass_of_another(self):
        classes = [getattr(errors, name) for name, _ in listed_errors()]
        for one in classes:
            for other in classes:
                self.assertEqual(issubclass(one, other), one is other)

    def test_parameters_become_attributes(self):
        for name, parameters in listed_errors():
            values = [("value", number) for number in range(len(parameters))]
            made = getattr(errors, name)(*values)
            for parameter, value in zip(parameters, values):
                self.assertEqual(getattr(made, parameter), value)
            self.assertEqual(list(vars(made)), parameters)

    def test_numbers_of_parameters(self):
        for name, parameters in listed_errors():
            if parameters:
                with self.assertRaises(TypeError):
                    getattr(errors, name)(*parameters[:-1])
                with self.assertRaises(TypeError):
                    getattr(errors, name)(*parameters, "one more")

    def test_each_is_caught_as_a_value_error(self):
        for name, parameters in listed_errors():
            with self.assertRaises(ValueError):
                raise getattr(errors, name)(*parameters)

    def test_copies_keep_the_attributes(self):
        for name, parameters in listed_errors():
            made = getattr(errors, name)(*parameters)
            self.assertEqual(vars(copy.deepcopy(made)), vars(made))
            self.assertEqual(vars(pickle.loads(pickle.dumps(made))), vars(made))

    def test_huge_values_can_be_told(self):
        self.assertEqual(errors.InvalidMoment((10 ** 5000, 0)).value, (10 ** 5000, 0))


if __name__ == "__main__":
    unittest.main()
