"""Point [7]: shortest sequences and their number."""

import unittest
from collections import Counter
from itertools import product
from random import Random
from reprlib import repr as shortened

from stackeffect.counts import with_effect
from stackeffect.effects import Effect, effect_of
from stackeffect.errors import InvalidItems
from stackeffect.shortest import shortest, shortest_length, shortest_many
from tests.helpers import Odd, other_values, parts, raised, small_effects, step_lists

FIFTY = [first + second for first in 'ab' for second in 'abcdefghijklmnopqrstuvwxy']
NOT_ITEM_LISTS = [
    'a', 'ab', '', ['a', 'a'], ('a', 'b', 'a'), FIFTY + ['z'], tuple(FIFTY) + ('z',), ['a'] * 51, ['A'], ['a', ''],
    ['a', 'abcdefghi'], ['a', None], ['a', 1], ['a', True], [['a']], [('a',)], ['a', ['b']], [{}], [Odd()], ['a b'],
    {'a', 'b'}, {'a': 'b'}, FIFTY + [FIFTY[0]], FIFTY[:-1] + [FIFTY[0]], [b'a'], ('a', 'b', 'B'),
]


def random_effect(random, items):
    """An effect with up to thirty items in each word, and up to forty above the least peak."""
    pops, pushes = [tuple(random.choices(items, k=random.randrange(31))) for word in range(2)]
    if random.randrange(3) == 0:
        pushes = pops[:random.randrange(31)]
    elif random.randrange(3) == 0:
        pushes = tuple(random.choices(items, k=len(pops)))
    least = max(0, len(pushes) - len(pops))
    return Effect(pops, pushes, peak=least + random.randrange(41))


class TestExamples(unittest.TestCase):
    def test_examples(self):
        self.assertEqual(shortest(Effect(('a',), ('b', 'c'))), [('pop', 'a'), ('push', 'c'), ('push', 'b')])
        self.assertEqual(shortest_length(Effect(('a',), ('b',), peak=1)), 4)
        self.assertEqual(shortest_many(Effect(('a',), ('b',), peak=1), ['a', 'b']), 4)


class TestAgainstEnumerations(unittest.TestCase):
    def check(self, items, most):
        lengths, numbers = {}, Counter()
        for steps in step_lists(items, most):
            key = parts(effect_of(steps))
            lengths.setdefault(key, len(steps))
            if lengths[key] == len(steps):
                numbers[key] += 1
        for (pops, pushes, peak), length in lengths.items():
            effect = Effect.never() if pops is None else Effect(pops, pushes, peak=peak)
            with self.subTest(effect=effect):
                self.assertEqual(shortest_length(effect), length)
                self.assertEqual(len(shortest(effect)), length)
                self.assertEqual(effect_of(shortest(effect)), effect)
                for form in (list(items), tuple(items), list(items)[::-1]):
                    self.assertEqual(shortest_many(effect, form), numbers[parts(effect)])
        return lengths

    def test_one_item_seven_steps(self):
        self.assertNotIn((None, None, None), self.check('a', 7))

    def test_two_items_five_steps(self):
        self.assertIn((None, None, None), self.check('ab', 5))

    def test_three_items_four_steps(self):
        self.check(['a', 'bcd', 'zz'], 4)

    def test_effects_that_do_not_occur_among_short_sequences(self):
        seen = {parts(effect_of(steps)) for steps in step_lists('ab', 5)}
        for effect in small_effects('ab', 3, 3):
            if parts(effect) not in seen:
                self.assertGreater(shortest_length(effect), 5)


class TestLargeEffects(unittest.TestCase):
    def test_length_and_effect(self):
        random = Random(7)
        for case in range(300):
            effect = random_effect(random, 'abc')
            steps = shortest(effect)
            self.assertEqual(effect_of(steps), effect)
            extra = effect.peak - max(0, effect.change)
            self.assertEqual(len(steps), len(effect.pops) + len(effect.pushes) + 2 * extra)
            self.assertEqual(shortest_length(effect), len(steps))

    def test_number(self):
        random = Random(8)
        for case in range(300):
            effect = random_effect(random, 'abc')
            extra = effect.peak - max(0, effect.change)
            both_orders = len(effect.pops) == len(effect.pushes) > 0 and extra > 0
            for items in ['abc', 'abcd', FIFTY[:46] + list('abc')]:
                expected = (2 if both_orders else 1) * len(items) ** extra
                self.assertEqual(shortest_many(effect, list(items)), expected)

    def test_counts_with_the_peak_less_those_below_it(self):
        random = Random(9)
        for case in range(200):
            effect = random_effect(random, 'abc')
            for kinds in (3, 7, 50):
                items = list('abc') + FIFTY[:kinds - 3]
                length = shortest_length(effect)
                number = with_effect(effect, length, kinds, peak=effect.peak)
                if effect.peak > 0:
                    number -= with_effect(effect, length, kinds, peak=effect.peak - 1)
                self.assertEqual(shortest_many(effect, items), number)

    def test_small_effects_with_the_peak_less_those_below_it(self):
        for effect in small_effects('ab', 3, 3):
            length = shortest_length(effect)
            number = with_effect(effect, length, 2, peak=effect.peak)
            if not effect.is_never and effect.peak > 0:
                number -= with_effect(effect, length, 2, peak=effect.peak - 1)
            self.assertEqual(shortest_many(effect, 'a b'.split()), number)

    def test_reversed_effects(self):
        random = Random(10)
        for effect in [random_effect(random, 'ab') for case in range(200)] + small_effects('ab', 2, 3):
            back = effect.reversal()
            self.assertEqual(shortest_length(back), shortest_length(effect))
            for items in [['a', 'b'], ['a'], [], ('c', 'b', 'a')]:
                self.assertEqual(shortest_many(back, items), shortest_many(effect, items))

    def test_five_thousand_steps(self):
        high = Effect((), (), peak=2500)
        self.assertEqual(shortest_length(high), 5000)
        steps = shortest(high)
        self.assertEqual([action for action, item in steps], ['push'] * 2500 + ['pop'] * 2500)
        self.assertEqual([item for action, item in steps], [item for action, item in steps][::-1])
        self.assertEqual(shortest_many(high, FIFTY), 50 ** 2500)
        long = Effect(('a', 'b') * 1000, ('c',) * 2000, peak=500)
        self.assertEqual(shortest_length(long), 5000)
        self.assertEqual(shortest_many(long, ['c', 'b', 'a']), 2 * 3 ** 500)
        self.assertEqual(len(shortest(long)), 5000)


class TestItems(unittest.TestCase):
    def test_missing_items(self):
        effect = Effect(('a',), ('b', 'c'), peak=3)
        self.assertEqual(shortest_many(effect, ['a', 'b', 'c']), 9)
        self.assertEqual(shortest_many(effect, ['c', 'a', 'd', 'b']), 16)
        for items in [[], ['a'], ['a', 'b'], ['b', 'c'], ['a', 'c', 'd'], ['aa', 'b', 'c'], FIFTY]:
            self.assertEqual(shortest_many(effect, items), 0)

    def test_no_items(self):
        self.assertEqual(shortest_many(Effect.nothing(), []), 1)
        self.assertEqual(shortest_many(Effect.nothing(), ()), 1)
        self.assertEqual(shortest_many(Effect((), (), peak=1), []), 0)
        self.assertEqual(shortest_many(Effect(('a',), ()), []), 0)

    def test_never(self):
        steps = shortest(Effect.never())
        self.assertEqual([action for action, item in steps], ['push', 'pop'])
        self.assertEqual(effect_of(steps), Effect.never())
        self.assertEqual(shortest_length(Effect.never()), 2)
        for many in range(51):
            self.assertEqual(shortest_many(Effect.never(), FIFTY[:many]), many * (many - 1))

    def test_fifty_items(self):
        self.assertEqual(len(FIFTY), 50)
        self.assertEqual(shortest_many(Effect((), (), peak=2), FIFTY), 2500)
        self.assertEqual(shortest_many(Effect((), (), peak=2), tuple(FIFTY)), 2500)

    def test_wrong_items(self):
        for effect in [Effect.never(), Effect.nothing(), Effect(('a',), ('c',), peak=2)]:
            for items in NOT_ITEM_LISTS + other_values():
                with self.subTest(shortened(items)):
                    error, attributes = raised(lambda: shortest_many(effect, items))
                    self.assertIs(error, InvalidItems)
                    self.assertIs(attributes['value'], items)

    def test_each_element_replaced(self):
        for bad, index in product(['', 'A', 'b', None, 5, True, [], Odd()], range(3)):
            items = ['a', 'b', 'c']
            items[index] = bad
            for form in (items, tuple(items)):
                if items != ['a', 'b', 'c']:
                    self.assertIs(raised(lambda: shortest_many(Effect.nothing(), form))[0], InvalidItems)

    def test_the_items_do_not_change(self):
        items = ['b', 'a']
        shortest_many(Effect(('a',), ('b',), peak=2), items)
        self.assertEqual(items, ['b', 'a'])


class TestCalls(unittest.TestCase):
    def test_new_lists(self):
        for effect in [Effect.never(), Effect.nothing(), Effect(('a',), ('b',), peak=2)]:
            first = shortest(effect)
            self.assertIsInstance(first, list)
            expected = list(first)
            first.append(5)
            first[:1] = []
            self.assertEqual(shortest(effect), expected)

    def test_every_element_is_a_step(self):
        for effect in small_effects('ab', 2, 3):
            for step in shortest(effect):
                self.assertIsInstance(step, tuple)
                self.assertIn(step[0], ('push', 'pop'))

    def test_by_name_in_another_order(self):
        effect = Effect(('a',), ('b',), peak=1)
        self.assertEqual(shortest(effect=effect), shortest(effect))
        self.assertEqual(shortest_length(effect=effect), 4)
        self.assertEqual(shortest_many(items=['a', 'b'], effect=effect), 4)

    def test_the_effect_does_not_change(self):
        for effect in small_effects('ab', 1, 2):
            before = parts(effect)
            shortest(effect)
            shortest_length(effect)
            shortest_many(effect, ['a', 'b'])
            self.assertEqual(parts(effect), before)


if __name__ == '__main__':
    unittest.main()
