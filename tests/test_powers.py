"""Point [8]: powers and roots."""

import unittest
from itertools import product
from random import Random

from stackeffect.effects import Effect, effect_of
from stackeffect.errors import InvalidNumber, LimitExceeded
from stackeffect.powers import Power, roots
from tests.helpers import Odd, other_values, parts, raised, small_effects, step_lists, words

HUGE = 10 ** 30
PROPERTIES = ['is_never', 'pops_length', 'pushes_length', 'peak']
NOT_NUMBERS = ['1', '', b'1', 1.0, 0.0, [], [1], (), (0,), {}] + [
    value for value in other_values() if value not in (0, 1, -1) or isinstance(value, (bool, Odd))]
BAD_EXPONENTS = NOT_NUMBERS + [-1, -HUGE, HUGE + 1, HUGE * 10]
KINDS = [Effect.never(), Effect.nothing(), Effect(('a',), ('a', 'b')), Effect(('a', 'b'), ('a',), peak=2),
         Effect(('a',), ('a',), peak=3), Effect(('a',), ('b',)), Effect((), ('a', 'b', 'c')), Effect(('b', 'c'), ())]


def in_turn(effect, exponent):
    """The effect of so many repetitions, one by one."""
    return Effect.nothing().then(*[effect] * exponent)


def values(power):
    return [getattr(power, name) for name in PROPERTIES]


class TestExamples(unittest.TestCase):
    def test_examples(self):
        self.assertEqual(Power(Effect(('a',), ('a', 'b')), 10 ** 30).pushes_length, 1000000000000000000000000000001)
        found = [(exponent, root.pushes) for exponent, root in roots(Effect((), ('a', 'a', 'a', 'a')))]
        self.assertEqual(found, [(2, ('a', 'a')), (4, ('a',))])


class TestPower(unittest.TestCase):
    def check(self, power, expected):
        self.assertEqual(power.effect(), expected)
        self.assertIs(power.is_never, expected.is_never)
        self.assertEqual(power.peak, expected.peak)
        for word, length, at in [(expected.pops, power.pops_length, power.popped),
                                 (expected.pushes, power.pushes_length, power.pushed)]:
            self.assertEqual(length, None if word is None else len(word))
            self.assertEqual([at(index) for index in range(length or 0)], list(word or ()))
            for index in [length or 0, (length or 0) + 1, -1]:
                self.assertEqual(raised(lambda: at(index)), (InvalidNumber, {'value': index}))

    def test_repeated_sequences(self):
        for steps in step_lists('ab', 4):
            effect = effect_of(steps)
            for exponent in range(8):
                self.check(Power(effect, exponent), effect_of(steps * exponent))

    def test_repeated_effects(self):
        for effect, exponent in product(small_effects('ab', 3, 1), range(8)):
            self.check(Power(effect, exponent), in_turn(effect, exponent))

    def test_growing_shrinking_and_neutral_effects_with_high_peaks(self):
        for word, more, above in product(words('ab', 2), words('ab', 2), (0, 1, 2, 7)):
            grows = Effect(word, word + more, peak=len(more) + above)
            shrinks = Effect(word + more, word, peak=above)
            for effect, exponent in product([grows, shrinks], range(8)):
                self.check(Power(effect, exponent), in_turn(effect, exponent))

    def test_never(self):
        never = Effect.never()
        self.check(Power(never, 0), Effect.nothing())
        for exponent in [1, 2, 3, HUGE]:
            self.check(Power(never, exponent), never)
            self.assertEqual(values(Power(never, exponent)), [True, None, None, None])
        for exponent in [2, 3, HUGE]:
            self.check(Power(Effect(('a',), ('b',)), exponent), never)
            self.check(Power(Effect(('a', 'b'), ('b', 'a', 'a')), exponent), never)

    def test_the_power_of_a_power(self):
        for effect, one, two in product(small_effects('ab', 2, 1), range(4), range(4)):
            again = Power(Power(effect, one).effect(), two).effect()
            self.assertEqual(again, Power(effect, one * two).effect())


class TestLargeExponents(unittest.TestCase):
    def check_word(self, at, length, word, more):
        """The first items are those of the word and of more, the last ones those at the end of more."""
        start = (word + more * 3)[:length]
        self.assertEqual(tuple(at(index) for index in range(len(start))), start)
        end = more * 3 if more else word
        self.assertEqual(tuple(at(index) for index in range(length - len(end), length)), end)
        for index in [length, length + 1, -1, -length, length * 10]:
            if index != 0 or length == 0:
                self.assertEqual(raised(lambda: at(index)), (InvalidNumber, {'value': index}))

    def test_both_ends(self):
        for word, more in product([(), ('a',), ('b', 'a')], [('c',), ('a', 'b'), ('a', 'b', 'b', 'c')]):
            for exponent in [1000, 10 ** 12, HUGE - 1, HUGE, 123456789012345678901234567890]:
                grown = Power(Effect(word, word + more, peak=len(more) + 2), exponent)
                long = len(word) + len(more) * exponent
                self.assertEqual(values(grown), [False, len(word), long, len(more) * exponent + 2])
                self.check_word(grown.popped, len(word), word, ())
                self.check_word(grown.pushed, long, word, more)
                shrunk = Power(Effect(word + more, word, peak=2), exponent)
                self.assertEqual(values(shrunk), [False, long, len(word), 2])
                self.check_word(shrunk.popped, long, word, more)
                self.check_word(shrunk.pushed, len(word), word, ())

    def test_indexes_in_the_middle(self):
        power = Power(Effect(('x',), ('x', 'a', 'b', 'c')), HUGE)
        for index in [1, 2, 3, 4, 5, 10 ** 15, 10 ** 29 + 1, 3 * HUGE - 1, 3 * HUGE]:
            self.assertEqual(power.pushed(index), 'abc'[(index - 1) % 3])

    def test_neutral_effects(self):
        for exponent in [1, 2, HUGE]:
            power = Power(Effect(('a', 'b'), ('a', 'b'), peak=4), exponent)
            self.assertEqual(values(power), [False, 2, 2, 4])
            self.assertEqual(power.effect(), Effect(('a', 'b'), ('a', 'b'), peak=4))
            self.assertEqual([power.popped(1), power.pushed(0)], ['b', 'a'])
        self.assertEqual(Power(Effect.nothing(), HUGE).effect(), Effect.nothing())

    def test_peaks(self):
        self.assertEqual(Power(Effect((), ('a',), peak=5), HUGE).peak, HUGE + 4)
        self.assertEqual(Power(Effect(('a',), (), peak=5), HUGE).peak, 5)
        self.assertEqual(Power(Effect((), (), peak=10 ** 38), HUGE).peak, 10 ** 38)
        self.assertEqual(Power(Effect((), (), peak=10 ** 38), 0).peak, 0)

    def test_most(self):
        self.assertEqual(Power.MOST, 10 ** 30)
        self.assertIn('MOST', vars(Power))


class TestLimit(unittest.TestCase):
    def test_exactly_above_a_thousand_items(self):
        exceeded = (LimitExceeded, {'limit': 1000})
        for word, more in [((), ('a',)), (('b',), ('a', 'c', 'a')), ((), ('a', 'b')), (('a', 'b'), ('c',) * 2)]:
            for grows in (True, False):
                effect = Effect(word, word + more) if grows else Effect(word + more, word)
                most = (1000 - len(word)) // len(more)
                whole = Power(effect, most).effect()
                self.assertEqual(whole, in_turn(effect, most))
                for exponent in [most + 1, most + 2, 10 ** 6, HUGE]:
                    self.assertEqual(raised(lambda: Power(effect, exponent).effect()), exceeded)

    def test_one_repetition_of_long_words(self):
        for many, word in product([999, 1000, 1001, 3000], [('a',), ('b',)]):
            for effect in [Effect(word * many, ()), Effect((), word * many), Effect(('a',) * many, word * many)]:
                power = Power(effect, 1)
                self.assertEqual(values(power), [False, len(effect.pops), len(effect.pushes), effect.peak])
                if many > 1000:
                    self.assertEqual(raised(power.effect), (LimitExceeded, {'limit': 1000}))
                else:
                    self.assertEqual(power.effect(), effect)

    def test_never_and_nothing_are_within_the_limit(self):
        self.assertEqual(Power(Effect(('a',) * 3000, ('b',)), 2).effect(), Effect.never())
        self.assertEqual(Power(Effect(('a',) * 3000, ('b',)), 0).effect(), Effect.nothing())

    def test_the_power_can_be_used_after_the_error(self):
        power = Power(Effect((), ('a',)), 1001)
        raised(power.effect)
        self.assertEqual(values(power), [False, 0, 1001, 1001])
        self.assertEqual(power.pushed(1000), 'a')


class TestWrongNumbers(unittest.TestCase):
    def check(self, action, value):
        error, attributes = raised(action)
        self.assertIs(error, InvalidNumber)
        self.assertIs(attributes['value'], value)

    def test_exponents(self):
        for effect, exponent in product(KINDS, BAD_EXPONENTS):
            self.check(lambda: Power(effect, exponent), exponent)
        for effect, exponent in product(KINDS, [0, 1, 2, HUGE - 1, HUGE]):
            self.assertIsNone(raised(lambda: Power(effect, exponent)))

    def test_true_and_false(self):
        for effect, value in product(KINDS, [True, False]):
            self.check(lambda: Power(effect, value), value)
            for exponent in [0, 1, 5, HUGE]:
                power = Power(effect, exponent)
                self.check(lambda: power.popped(value), value)
                self.check(lambda: power.pushed(value), value)

    def test_indexes(self):
        for effect, exponent in product(KINDS, [0, 1, 2, HUGE]):
            power = Power(effect, exponent)
            for value in NOT_NUMBERS + [-1, -HUGE]:
                self.check(lambda: power.popped(value), value)
                self.check(lambda: power.pushed(value), value)
            for value in [power.pops_length or 0, HUGE * 100]:
                self.check(lambda: power.popped(value), value)
            for value in [power.pushes_length or 0, HUGE * 100]:
                self.check(lambda: power.pushed(value), value)

    def test_every_index_of_never(self):
        power = Power(Effect.never(), 3)
        for value in [0, 1, -1, 5, HUGE, None, 'a', True]:
            self.check(lambda: power.popped(value), value)
            self.check(lambda: power.pushed(value), value)


class TestObjects(unittest.TestCase):
    def test_the_given_effect_does_not_change(self):
        for effect, exponent in product(small_effects('ab', 2, 1), [0, 1, 2, HUGE]):
            before = parts(effect)
            power = Power(effect, exponent)
            raised(power.effect)
            raised(lambda: power.popped(0))
            roots(effect)
            self.assertEqual(parts(effect), before)

    def test_properties_cannot_be_assigned(self):
        for power in [Power(Effect.never(), 2), Power(Effect(('a',), ('a', 'b')), 5)]:
            before = values(power)
            for name in PROPERTIES:
                self.assertRaises(AttributeError, lambda: setattr(power, name, 0))
            self.assertEqual(values(power), before)

    def test_the_members_stand_in_the_class(self):
        for name in PROPERTIES:
            self.assertIsInstance(vars(Power)[name], property)
        for name in ['__init__', 'popped', 'pushed', 'effect']:
            self.assertIn(name, vars(Power))

    def test_equal_only_to_itself(self):
        one, other = Power(Effect.nothing(), 2), Power(Effect.nothing(), 2)
        self.assertTrue(one == one)
        for value in [other, Effect.nothing(), one.effect(), None, 2, ()]:
            self.assertIs(one == value, False)
            self.assertIs(one != value, True)

    def test_by_name_in_another_order(self):
        effect = Effect(('a',), ('a', 'b'))
        power = Power(exponent=3, effect=effect)
        self.assertEqual(power.effect(), Effect(('a',), ('a', 'b', 'b', 'b')))
        self.assertEqual([power.popped(index=0), power.pushed(index=3)], ['a', 'b'])
        self.assertEqual(roots(effect=Effect((), ('a', 'a'))), [(2, Effect((), ('a',)))])


class TestRoots(unittest.TestCase):
    def test_against_an_enumeration(self):
        effects = small_effects('ab', 4, 0)
        found = {}
        for effect, exponent in product(effects, range(2, 6)):
            whole = in_turn(effect, exponent)
            if not whole.is_never:
                found.setdefault((whole.pops, whole.pushes), {})[exponent] = effect
        for effect in effects:
            if effect.is_never or effect.is_neutral:
                self.assertIsNone(roots(effect))
            else:
                expected = sorted(found.get((effect.pops, effect.pushes), {}).items(), key=lambda pair: pair[0])
                self.assertEqual(roots(effect), expected, effect)

    def test_powers_of_drawn_effects_give_the_effect_back(self):
        random = Random(11)
        for case in range(300):
            word, more = [tuple(random.choices('ab', k=random.randrange(least, 5))) for least in (0, 1)]
            exponent = random.randrange(2, 30)
            effect = Effect(word, word + more) if random.randrange(2) else Effect(word + more, word)
            whole = Power(effect, exponent).effect()
            found = roots(whole)
            self.assertIn((exponent, effect), found)
            self.assertEqual([number for number, root in found], sorted({number for number, root in found}))
            for number, root in found:
                self.assertGreaterEqual(number, 2)
                again = Power(root, number).effect()
                self.assertEqual((again.pops, again.pushes), (whole.pops, whole.pushes))
                self.assertEqual(root.peak, max(0, root.change))

    def test_the_peak_of_the_given_effect_makes_no_difference(self):
        for effect in small_effects('ab', 4, 0):
            if not effect.is_never:
                for above in (1, 50, 10 ** 30):
                    high = Effect(effect.pops, effect.pushes, peak=effect.peak + above)
                    self.assertEqual(roots(high), roots(effect))

    def test_none_and_empty_lists(self):
        for effect in [Effect.never(), Effect.nothing(), Effect((), (), peak=4), Effect(('a', 'b'), ('a', 'b'))]:
            self.assertIsNone(roots(effect))
        for effect in [Effect(('a',), ('b',)), Effect(('a',), ()), Effect((), ('a',)), Effect((), ('a', 'b')),
                       Effect(('a',), ('b', 'a')), Effect(('a', 'b'), ('b', 'a', 'b', 'a'))]:
            self.assertEqual(roots(effect), [])

    def test_all_divisors_of_a_long_word(self):
        found = roots(Effect(('a',) * 3, ('a',) * 3603))
        divisors = [number for number in range(2, 3601) if 3600 % number == 0]
        self.assertEqual(found, [(number, Effect(('a',) * 3, ('a',) * (3 + 3600 // number))) for number in divisors])
        found = roots(Effect(('b', 'a') * 600, ()))
        divisors = [number for number in range(2, 601) if 600 % number == 0]
        self.assertEqual(found, [(number, Effect(('b', 'a') * (600 // number), ())) for number in divisors])

    def test_reversed_effects(self):
        for effect in small_effects('ab', 4, 0):
            found, back = roots(effect), roots(effect.reversal())
            if found is None:
                self.assertIsNone(back)
            else:
                self.assertEqual([(number, root.reversal()) for number, root in found], back)

    def test_new_lists_of_tuples(self):
        effect = Effect((), ('a', 'a'))
        first = roots(effect)
        self.assertIsInstance(first, list)
        self.assertIsInstance(first[0], tuple)
        first.clear()
        self.assertEqual(roots(effect), [(2, Effect((), ('a',)))])


if __name__ == '__main__':
    unittest.main()
