"""The section "The errors"."""

import unittest

from stackeffect import errors
from tests.helpers import other_values

BELOW_STACK_ERROR = {
    'InvalidWord': 'value', 'InvalidSteps': 'index', 'InvalidNumber': 'value', 'InvalidItems': 'value',
    'InvalidTable': 'value', 'InvalidBlocks': 'value', 'InvalidEffect': 'value', 'InvalidStacks': 'value',
    'InvalidOrder': 'value', 'InvalidCandidates': 'value', 'InvalidObservation': 'index', 'InvalidText': 'value',
    'InvalidCommand': 'line',
}
APART = {
    'UnknownName': ('name', KeyError), 'StepFailed': ('index', RuntimeError),
    'NothingToUndo': ('count', LookupError), 'LimitExceeded': ('limit', OverflowError),
}
ATTRIBUTES = {**BELOW_STACK_ERROR, **{name: attribute for name, (attribute, base) in APART.items()}}


class TestErrors(unittest.TestCase):
    def test_stack_error_is_a_value_error(self):
        self.assertEqual(errors.StackError.__bases__, (ValueError,))

    def test_those_below_stack_error(self):
        for name in BELOW_STACK_ERROR:
            with self.subTest(name):
                self.assertEqual(getattr(errors, name).__bases__, (errors.StackError,))

    def test_those_apart(self):
        for name, (attribute, base) in APART.items():
            with self.subTest(name):
                self.assertEqual(getattr(errors, name).__bases__, (base,))
                self.assertFalse(issubclass(getattr(errors, name), errors.StackError))

    def test_none_is_below_another(self):
        classes = [getattr(errors, name) for name in ATTRIBUTES]
        for one in classes:
            self.assertEqual([other for other in classes if issubclass(one, other)], [one])

    def test_made_by_position_and_by_name_from_any_value(self):
        for name, attribute in ATTRIBUTES.items():
            for value in other_values() + ['a', ('a',), [1], [[]], 10 ** 39]:
                with self.subTest(name, value=value):
                    made = getattr(errors, name)
                    self.assertIs(getattr(made(value), attribute), value)
                    self.assertIs(getattr(made(**{attribute: value}), attribute), value)
                    self.assertEqual(list(vars(made(value))), [attribute])

    def test_exactly_one_argument(self):
        for name, attribute in ATTRIBUTES.items():
            made = getattr(errors, name)
            for wrong in (lambda: made(), lambda: made(1, 2), lambda: made(**{attribute + 'x': 1})):
                with self.subTest(name):
                    self.assertRaises(TypeError, wrong)

    def test_raised_and_caught(self):
        for name, attribute in ATTRIBUTES.items():
            made = getattr(errors, name)
            with self.subTest(name):
                with self.assertRaises(made) as caught:
                    raise made([7])
                self.assertEqual(getattr(caught.exception, attribute), [7])
                self.assertIsInstance(str(caught.exception), str)

    def test_the_init_stands_in_each_class(self):
        for name in ATTRIBUTES:
            self.assertIn('__init__', vars(getattr(errors, name)))


if __name__ == '__main__':
    unittest.main()
