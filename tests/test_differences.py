"""Differences, and effects that commute."""

import unittest
from itertools import product

from stackeffect.differences import commute, difference
from stackeffect.effects import Effect
from stackeffect.errors import InvalidNumber
from tests.helpers import BAD_LIMITS, Odd, raised, small_effects, words

SMALL_LIMITS = [None, 0, 1, 2, 3, 4]


def results(effect, stacks, limit):
    return [effect.apply(stack, limit=limit) for stack in stacks]


def first_difference(stacks, some, others):
    """The first of the stacks for which two lists hold different results."""
    return next((stack for stack, one, other in zip(stacks, some, others) if one != other), None)


class TestExamples(unittest.TestCase):
    def test_examples(self):
        self.assertEqual(difference(Effect(('a',), ()), Effect(('a', 'b'), ('b',))), ('a',))
        self.assertEqual(commute(Effect(('a',), ()), Effect((), ('a',))), ())


class TestDifference(unittest.TestCase):
    def check_all_pairs(self, effects, stacks, limits):
        for limit in limits:
            table = [results(effect, stacks, limit) for effect in effects]
            for (one, some), (other, others) in product(zip(effects, table), repeat=2):
                expected = first_difference(stacks, some, others)
                self.assertEqual(difference(one, other, limit=limit), expected, (one, other, limit))

    def test_against_a_search(self):
        self.check_all_pairs(small_effects('ab', 2, 1), words('ab', 5), SMALL_LIMITS)

    def test_against_a_search_where_no_effect_has_the_first_item(self):
        self.check_all_pairs(small_effects(['b', 'ba'], 1, 3), words(['a', 'b', 'ba'], 5), SMALL_LIMITS)

    def test_where_only_the_peak_differs(self):
        low, high = Effect(('b',), ('c',)), Effect(('b',), ('c',), peak=3)
        self.assertIsNone(difference(low, high))
        self.assertIsNone(difference(low, high, limit=0))
        for limit in (1, 2, 3):
            self.assertEqual(difference(low, high, limit=limit), ('b',))
        self.assertEqual(difference(low, high, limit=4), ('b', 'a'))
        self.assertEqual(difference(low, high, limit=6), ('b', 'a', 'a', 'a'))
        self.assertEqual(difference(low, high, limit=1000), ('b',) + ('a',) * 997)

    def test_large_limits(self):
        for low, high in [(0, 1), (0, 1000), (998, 999), (5, 10 ** 30), (999, 10 ** 30), (1000, 10 ** 30)]:
            one, other = Effect((), (), peak=low), Effect((), (), peak=high)
            expected = ('a',) * max(0, 1001 - high)
            self.assertEqual(difference(one, other, limit=1000), expected)
            self.assertNotEqual(one.apply(expected, limit=1000), other.apply(expected, limit=1000))
        beyond = Effect((), (), peak=1001), Effect((), (), peak=1002)
        self.assertIsNone(difference(*beyond, limit=1000))

    def test_other_pushes_and_pops_with_large_limits(self):
        self.assertEqual(difference(Effect(('a',), ()), Effect(('a',), ('b',)), limit=1000), ('a',))
        self.assertEqual(difference(Effect(('b',), ()), Effect(('aa',), ()), limit=1000), ('aa',))
        self.assertEqual(difference(Effect(('b',), ()), Effect(('a', 'a'), ()), limit=1000), ('b',))
        self.assertEqual(difference(Effect(('b',), (), peak=1000), Effect(('a', 'a'), ()), limit=1000), ('a', 'a'))

    def test_long_pops(self):
        many = ('b',) * 1000
        self.assertEqual(difference(Effect(many, ()), Effect.never(), limit=1000), many)
        self.assertIsNone(difference(Effect(many, (), peak=1), Effect.never(), limit=1000))
        self.assertEqual(difference(Effect(many, (), peak=1), Effect(many, ()), limit=1000), many)
        self.assertEqual(difference(Effect(many * 3, ()), Effect.never()), many * 3)

    def test_never_and_equal_effects(self):
        never = Effect.never()
        for limit in [None, 0, 3, 1000]:
            self.assertIsNone(difference(never, Effect.never(), limit=limit))
            for effect in small_effects('ab', 2, 1):
                self.assertIsNone(difference(effect, effect, limit=limit))
                expected = None
                if not effect.is_never and effect.apply(effect.pops, limit=limit) is not None:
                    expected = effect.pops
                self.assertEqual(difference(effect, never, limit=limit), expected)
                self.assertEqual(difference(never, effect, limit=limit), expected)

    def test_exchanged(self):
        for one, other in product(small_effects('ab', 1, 2), repeat=2):
            for limit in [None, 0, 1, 2, 3, 1000]:
                self.assertEqual(difference(one, other, limit=limit), difference(other, one, limit=limit))

    def test_wrong_limits(self):
        never, nothing = Effect.never(), Effect.nothing()
        for one, other in product([never, nothing], repeat=2):
            for limit in BAD_LIMITS + [Odd()]:
                for function in (difference, commute):
                    error, attributes = raised(lambda: function(one, other, limit=limit))
                    self.assertIs(error, InvalidNumber)
                    self.assertIs(attributes['value'], limit)

    def test_by_name_in_another_order(self):
        one, other = Effect(('a',), ()), Effect((), ('a',))
        self.assertEqual(difference(limit=0, other=other, one=one), None)
        self.assertEqual(difference(limit=1, other=other, one=one), ())
        self.assertEqual(commute(limit=0, other=other, one=one), None)
        self.assertEqual(commute(limit=1, other=other, one=one), ())

    def test_the_limit_is_passed_by_name_only(self):
        for function in (difference, commute):
            self.assertRaises(TypeError, lambda: function(Effect.never(), Effect.never(), 5))


class TestCommute(unittest.TestCase):
    def test_against_a_search(self):
        stacks = words('ab', 5)
        effects = small_effects('ab', 1, 1) + [Effect(('a', 'b'), ('b',)), Effect(('a', 'a'), ('a',), peak=1)]
        for one, other in product(effects, repeat=2):
            for limit in SMALL_LIMITS:
                expected = next((stack for stack in stacks
                                 if self.in_turn(one, other, stack, limit) != self.in_turn(other, one, stack, limit)),
                                None)
                self.assertEqual(commute(one, other, limit=limit), expected, (one, other, limit))
                self.assertEqual(commute(other, one, limit=limit), expected)

    def in_turn(self, one, other, stack, limit):
        middle = one.apply(stack, limit=limit)
        return None if middle is None else other.apply(middle, limit=limit)

    def test_is_the_difference_of_the_two_orders(self):
        for one, other in product(small_effects('ab', 2, 1)[::4], repeat=2):
            for limit in [None, 2, 3, 1000]:
                expected = difference(one.then(other), other.then(one), limit=limit)
                self.assertEqual(commute(one, other, limit=limit), expected)

    def test_powers_of_one_effect_commute(self):
        for effect in small_effects('ab', 2, 0):
            self.assertIsNone(commute(effect, effect.then(effect)))

    def test_orders_that_differ_only_at_a_limit(self):
        push, high = Effect((), ('b',)), Effect((), (), peak=2)
        self.assertIsNone(commute(push, high))
        self.assertIsNone(commute(push, high, limit=0))
        self.assertEqual(commute(push, high, limit=2), ())
        self.assertEqual(commute(push, high, limit=4), ('a', 'a'))


if __name__ == '__main__':
    unittest.main()
