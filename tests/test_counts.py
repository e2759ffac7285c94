"""Point [9]: numbers of sequences."""

import unittest
from collections import Counter
from itertools import product
from math import comb

from stackeffect.counts import effects_many, with_effect
from stackeffect.effects import Effect, effect_of
from stackeffect.errors import InvalidNumber
from tests.helpers import Odd, other_values, parts, raised, small_effects, step_lists

NOT_NUMBERS = ['1', '', 2.0, [], (), {}, [1]] + [
    value for value in other_values() if isinstance(value, (bool, Odd)) or not isinstance(value, int)]
BAD_LENGTHS = NOT_NUMBERS + [-1, 201, -10 ** 39, 10 ** 39]
BAD_KINDS = NOT_NUMBERS + [0, -1, 51, 10 ** 39]
BAD_PEAKS = [value for value in BAD_LENGTHS if value is not None]


def by_formula(effect, length, kinds):
    """The formula of [9]."""
    different = len(set(effect.pops + effect.pushes))
    many = len(effect.pops) + len(effect.pushes)
    if different > kinds or many > length or (length - many) % 2:
        return 0
    pairs = (length - many) // 2
    whole, rest = divmod((many + 1) * comb(length + 1, pairs) * kinds ** pairs, length + 1)
    assert rest == 0
    return whole


def some_items(many):
    """So many different items."""
    return tuple(first + second for first in 'abc' for second in 'abcdefghijklmnopqrstuvwxyz')[:many]


class TestExamples(unittest.TestCase):
    def test_examples(self):
        self.assertEqual(with_effect(Effect((), ()), 4, 2), 8)
        self.assertEqual(with_effect(Effect.never(), 2, 2), 2)
        self.assertEqual(effects_many(2, 2), 13)


class TestAgainstEnumerations(unittest.TestCase):
    def check(self, items, length):
        peaks = Counter(parts(effect_of(steps)) for steps in step_lists(items, length) if len(steps) == length)
        pairs = Counter()
        for (pops, pushes, peak), number in peaks.items():
            pairs[pops, pushes] += number
        kinds = len(items)
        self.assertEqual(effects_many(length, kinds), len([pair for pair in pairs if pair != (None, None)]))
        self.assertEqual(with_effect(Effect.never(), length, kinds), pairs[None, None])
        for peak in (None, 0, 1, length, 200):
            self.assertEqual(with_effect(Effect.never(), length, kinds, peak=peak), pairs[None, None])
        for pops, pushes in pairs:
            if pops is not None:
                self.check_pair(pops, pushes, length, kinds, pairs, peaks)

    def check_pair(self, pops, pushes, length, kinds, pairs, peaks):
        least = max(0, len(pushes) - len(pops))
        for effect in [Effect(pops, pushes), Effect(pops, pushes, peak=least + 9)]:
            self.assertEqual(with_effect(effect, length, kinds), pairs[pops, pushes])
            self.assertEqual(with_effect(effect, length, kinds, peak=None), pairs[pops, pushes])
            for most in list(range(length + 2)) + [200]:
                expected = sum(peaks[pops, pushes, peak] for peak in range(min(most, length) + 1))
                self.assertEqual(with_effect(effect, length, kinds, peak=most), expected, (effect, length, most))

    def test_one_item_seven_steps(self):
        for length in range(8):
            self.check('a', length)

    def test_two_items_six_steps(self):
        for length in range(7):
            self.check('ab', length)

    def test_three_items_five_steps(self):
        for length in range(6):
            self.check('abc', length)

    def test_effects_that_do_not_occur(self):
        for length, kinds in product(range(5), (1, 2)):
            items = 'ab'[:kinds]
            pairs = {parts(effect_of(steps))[:2] for steps in step_lists(items, length) if len(steps) == length}
            for effect in small_effects(items, 3, 0):
                if not effect.is_never and (effect.pops, effect.pushes) not in pairs:
                    self.assertEqual(with_effect(effect, length, kinds), 0)
                    self.assertEqual(with_effect(effect, length, kinds, peak=200), 0)

    def test_renamed_items(self):
        effect, other = Effect(('a', 'b'), ('a',)), Effect(('q', 'zz'), ('q',))
        for length, kinds in product(range(12), (2, 3, 50)):
            self.assertEqual(with_effect(effect, length, kinds), with_effect(other, length, kinds))


class TestLargeNumbers(unittest.TestCase):
    def test_against_the_formula(self):
        words = [(), ('a',), ('a', 'b'), ('c', 'a', 'c', 'b'), ('b',) * 30, some_items(17)]
        for pops, pushes in product(words, repeat=2):
            effect = Effect(pops, pushes)
            for length, kinds in product((0, 1, 31, 60, 99, 199, 200), (1, 2, 16, 17, 21, 49, 50)):
                expected = by_formula(effect, length, kinds)
                self.assertEqual(with_effect(effect, length, kinds), expected)
                self.assertEqual(with_effect(effect, length, kinds, peak=200), expected)

    def test_long_words(self):
        for many in (100, 199, 200, 201, 202, 5000):
            for effect in [Effect(('a',) * many, ()), Effect((), ('a',) * many), Effect(('b',) * many, ('a',) * many)]:
                for length in (199, 200):
                    self.assertEqual(with_effect(effect, length, 2), by_formula(effect, length, 2))

    def test_peaks_of_long_sequences(self):
        # Without pops the heights are those of walks between 0 and the peak, which are counted plainly here.
        for most in (0, 1, 2, 5, 50, 99, 100, 101, 200):
            ways = [1] + [0] * most
            for step in range(200):
                ways = [(ways[at - 1] if at else 0) + (ways[at + 1] if at < most else 0) for at in range(most + 1)]
            self.assertEqual(with_effect(Effect.nothing(), 200, 50, peak=most), ways[0] * 50 ** 100)
        self.assertEqual(with_effect(Effect.nothing(), 200, 3, peak=1), 3 ** 100)
        self.assertEqual(with_effect(Effect((), ('a',) * 200), 200, 3, peak=199), 0)
        self.assertEqual(with_effect(Effect((), ('a',) * 200), 200, 3, peak=200), 1)
        self.assertEqual(with_effect(Effect(('a',) * 200, ()), 200, 3, peak=0), 1)

    def test_peaks_of_reversed_effects(self):
        for effect in small_effects('ab', 3, 0)[1:]:
            for length, most in product((6, 7, 40, 41), range(4)):
                peak, back = effect.peak + most, effect.peak + most - effect.change
                self.assertEqual(with_effect(effect, length, 2, peak=peak),
                                 with_effect(effect.reversal(), length, 2, peak=back))

    def test_sums_over_all_effects(self):
        # The number depends only on the number of items, and pops and pushes can share these in many + 1 ways.
        for length, kinds in product((0, 1, 2, 3, 30, 99, 200), (1, 2, 7, 50)):
            total = with_effect(Effect.never(), length, kinds)
            for many in range(length + 1):
                total += (many + 1) * kinds ** many * with_effect(Effect(('a',) * many, ()), length, kinds)
            self.assertEqual(total, (2 * kinds) ** length)

    def test_pops_and_pushes_share_the_items_in_any_way(self):
        for length, many in product((8, 9, 60), range(6)):
            numbers = {with_effect(Effect(('a',) * at, ('a',) * (many - at)), length, 4) for at in range(many + 1)}
            self.assertEqual(len(numbers), 1)

    def test_never_with_one_item(self):
        for length in range(0, 201, 25):
            self.assertEqual(with_effect(Effect.never(), length, 1), 0)

    def test_different_pairs(self):
        for length, kinds in product((0, 1, 2, 5, 100, 199, 200), (1, 2, 50)):
            expected = sum((many + 1) * kinds ** many for many in range(length + 1) if (length - many) % 2 == 0)
            self.assertEqual(effects_many(length, kinds), expected)

    def test_more_different_items_than_there_are(self):
        for many in (2, 3, 10, 50, 51, 60):
            items = some_items(many)
            for pops, pushes in [(items, ()), ((), items), (items[1:], items), (items[:1], items[1:])]:
                effect = Effect(pops, pushes)
                for kinds in (1, many - 1, many, many + 1):
                    if kinds <= 50:
                        expected = by_formula(effect, 130, kinds)
                        self.assertEqual(with_effect(effect, 130, kinds), expected)
                        self.assertEqual(with_effect(effect, 130, kinds, peak=200), expected)
                        if kinds < many:
                            self.assertEqual(expected, 0)


class TestWrongNumbers(unittest.TestCase):
    def check(self, action, value):
        error, attributes = raised(action)
        self.assertIs(error, InvalidNumber)
        self.assertIs(attributes['value'], value)

    def test_length_then_kinds_then_peak(self):
        effects = [Effect.never(), Effect.nothing(), Effect(('a', 'b', 'c'), ('d',))]
        for effect in effects:
            for length in BAD_LENGTHS:
                for kinds, peak in [(1, None), (0, None), (True, -1), (50, 201)]:
                    self.check(lambda: with_effect(effect, length, kinds, peak=peak), length)
            for kinds in BAD_KINDS:
                for length, peak in [(0, None), (200, -1), (3, True)]:
                    self.check(lambda: with_effect(effect, length, kinds, peak=peak), kinds)
            for peak in BAD_PEAKS:
                for length, kinds in [(0, 1), (200, 50), (3, 2)]:
                    self.check(lambda: with_effect(effect, length, kinds, peak=peak), peak)

    def test_effects_many(self):
        for length in BAD_LENGTHS:
            for kinds in [1, 0, True, None]:
                self.check(lambda: effects_many(length, kinds), length)
        for kinds in BAD_KINDS:
            for length in [0, 5, 200]:
                self.check(lambda: effects_many(length, kinds), kinds)

    def test_the_ends_of_the_ranges(self):
        for length, kinds, peak in product((0, 200), (1, 50), (None, 0, 200)):
            self.assertIsNone(raised(lambda: with_effect(Effect.nothing(), length, kinds, peak=peak)))
            self.assertIsNone(raised(lambda: with_effect(Effect.never(), length, kinds, peak=peak)))
            self.assertIsNone(raised(lambda: effects_many(length, kinds)))


class TestCalls(unittest.TestCase):
    def test_by_name_in_another_order(self):
        effect = Effect(('a',), ('b',))
        self.assertEqual(with_effect(peak=0, kinds=3, length=4, effect=effect), with_effect(effect, 4, 3, peak=0))
        self.assertEqual(with_effect(kinds=2, effect=Effect((), ()), length=4), 8)
        self.assertEqual(effects_many(kinds=2, length=2), 13)
        self.assertEqual(effects_many(kinds=1, length=2), 4)

    def test_the_peak_is_passed_by_name_only(self):
        self.assertRaises(TypeError, lambda: with_effect(Effect.nothing(), 4, 2, 1))

    def test_the_effect_does_not_change(self):
        for effect in small_effects('ab', 1, 2):
            before = parts(effect)
            with_effect(effect, 6, 2, peak=1)
            self.assertEqual(parts(effect), before)


if __name__ == '__main__':
    unittest.main()
