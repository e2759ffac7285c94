"""Point [6]: effects."""

import unittest
from itertools import product
from reprlib import repr as shortened

from stackeffect.effects import Effect, effect_of
from stackeffect.errors import InvalidNumber, InvalidSteps, InvalidWord
from stackeffect.words import reverse
from tests.helpers import (BAD_LIMITS, LIMITS, Odd, other_values, raised, result, small_effects, stages, step_lists,
                           words)

PROPERTIES = ['pops', 'pushes', 'peak', 'change', 'is_never', 'is_neutral']
NOT_WORDS = [None, True, 5, 'a', '', ['a'], [], {}, ('A',), ('a', ''), ('a', 1), (True,), Odd(), (Odd(),)]


def values(effect):
    return [getattr(effect, name) for name in PROPERTIES]


class TestExamples(unittest.TestCase):
    def test_examples(self):
        self.assertEqual(repr(effect_of([('pop', 'a'), ('push', 'b'), ('push', 'c')])),
                         "Effect(('a',), ('c', 'b'), peak=1)")
        self.assertEqual(repr(effect_of([('push', 'a'), ('pop', 'b')])), 'Effect.never()')
        self.assertEqual(repr(Effect(('a',), ('b',)).then(Effect(('b', 'c'), ()))), "Effect(('a', 'c'), (), peak=0)")
        self.assertEqual(Effect(('a',), ('c', 'b')).apply(('a', 'z')), ('c', 'b', 'z'))
        self.assertEqual(raised(lambda: Effect(('a',), (), peak=-1)), (InvalidNumber, {'value': -1}))


class TestEffectOf(unittest.TestCase):
    def test_against_running_the_steps(self):
        stacks = words('ab', 4)
        for steps in step_lists('ab', 4):
            effect = effect_of(steps)
            for stack in stacks:
                self.assertEqual(effect.apply(stack), result(steps, stack, None))

    def test_against_running_the_steps_with_limits(self):
        stacks = words('ab', 3)
        for steps in step_lists('ab', 3):
            effect = Effect.of(*steps)
            for stack, limit in product(stacks, LIMITS):
                self.assertEqual(effect.apply(stack, limit=limit), result(steps, stack, limit))

    def test_pops_pushes_peak_and_change(self):
        for steps in step_lists('ab', 4):
            effect = effect_of(steps)
            seen, failed = stages(steps, effect.pops or (), None)
            if effect.is_never:
                continue
            self.assertIsNone(failed)
            depth = len(effect.pops)
            self.assertEqual(seen[-1], effect.pushes)
            self.assertEqual(min(len(stack) for stack in seen), 0)
            self.assertEqual(effect.peak, max(len(stack) - depth for stack in seen))
            self.assertEqual(effect.change, len(effect.pushes) - depth)

    def test_never_exactly_where_a_pop_meets_another_pushed_item(self):
        for steps in step_lists('ab', 4):
            pushed, differs = [], False
            for action, item in steps:
                if action == 'push':
                    pushed.append(item)
                elif pushed and pushed.pop() != item:
                    differs = True
                    break
            self.assertIs(effect_of(steps).is_never, differs)

    def test_lists_tuples_and_separate_steps(self):
        for steps in step_lists('ab', 3):
            effect = effect_of(steps)
            self.assertEqual(effect_of(tuple(steps)), effect)
            self.assertEqual(Effect.of(*steps), effect)

    def test_long_sequences(self):
        self.assertEqual(effect_of([('push', 'a')] * 1000), Effect((), ('a',) * 1000))
        self.assertEqual(Effect.of(*[('pop', 'a')] * 1000), Effect(('a',) * 1000, ()))
        self.assertEqual(effect_of([('push', 'a'), ('pop', 'a')] * 500), Effect((), (), peak=1))
        deep = [('pop', 'a')] * 3 + [('push', 'b')] * 9 + [('pop', 'b')] * 8
        self.assertEqual(effect_of(deep), Effect(('a',) * 3, ('b',), peak=6))

    def test_wrong_steps(self):
        wrong = [(None, None), (5, None), ('a', None), ({}, None), (Odd(), None), ([('push', 'a')] * 1001, None),
                 ([5], 0), ([('push', 'a'), ('push', 'A')], 1), ([('push', 'a'), ('pop', 'b'), None], 2),
                 ((['push', 'a'],), 0), ([('push', 'a', 'b')], 0)]
        for steps, index in wrong:
            with self.subTest(shortened(steps)):
                self.assertEqual(raised(lambda: effect_of(steps)), (InvalidSteps, {'index': index}))
                if index is not None:
                    self.assertEqual(raised(lambda: Effect.of(*steps)), (InvalidSteps, {'index': index}))

    def test_wrong_separate_steps(self):
        for value in [None, (), [], 'push', True, [('push', 'a')], Odd()]:
            self.assertEqual(raised(lambda: Effect.of(value)), (InvalidSteps, {'index': 0}))
        self.assertEqual(raised(lambda: Effect.of(*[('push', 'a')] * 1001)), (InvalidSteps, {'index': None}))
        self.assertEqual(raised(lambda: Effect.of('push', 'a')), (InvalidSteps, {'index': 0}))

    def test_the_steps_are_neither_changed_nor_kept(self):
        steps = [('pop', 'a'), ('push', 'b')]
        effect = effect_of(steps)
        self.assertEqual(steps, [('pop', 'a'), ('push', 'b')])
        steps.clear()
        self.assertEqual(effect, Effect(('a',), ('b',)))


class TestMaking(unittest.TestCase):
    def test_without_and_with_a_peak(self):
        for pops, pushes in product(words('ab', 3), repeat=2):
            least = max(0, len(pushes) - len(pops))
            self.assertEqual(Effect(pops, pushes).peak, least)
            self.assertEqual(Effect(pops, pushes, peak=None).peak, least)
            for peak in [least, least + 1, least + 1000, 10 ** 39]:
                effect = Effect(pops, pushes, peak=peak)
                change = len(pushes) - len(pops)
                self.assertEqual(values(effect), [pops, pushes, peak, change, False, pops == pushes])
            for peak in [least - 1, -1, -10 ** 39, True, False, '1', 1.5, float(least), [], (), Odd()]:
                error, attributes = raised(lambda: Effect(pops, pushes, peak=peak))
                self.assertIs(error, InvalidNumber)
                self.assertIs(attributes['value'], peak)

    def test_never_and_nothing(self):
        self.assertEqual(values(Effect.never()), [None, None, None, None, True, False])
        self.assertEqual(values(Effect.nothing()), [(), (), 0, 0, False, True])
        self.assertEqual(Effect.nothing(), effect_of([]))
        self.assertEqual(Effect.nothing(), Effect.of())

    def test_neutral_whatever_the_peak(self):
        self.assertIs(Effect(('a',), ('a',), peak=5).is_neutral, True)
        self.assertIs(Effect(('a',), ('b',)).is_neutral, False)
        self.assertIs(effect_of([('push', 'a'), ('pop', 'a')]).is_neutral, True)

    def test_kinds_of_methods(self):
        self.assertIsInstance(vars(Effect)['of'], staticmethod)
        self.assertIsInstance(vars(Effect)['never'], classmethod)
        self.assertIsInstance(vars(Effect)['nothing'], classmethod)
        for name in PROPERTIES:
            self.assertIsInstance(vars(Effect)[name], property)
        for name in ['__init__', 'then', 'reversal', 'apply', '__eq__', '__repr__']:
            self.assertIn(name, vars(Effect))

    def test_wrong_words(self):
        for bad in NOT_WORDS:
            for pops, pushes, peak in [(bad, (), None), ((), bad, None), (bad, ['b'], -1), ((), bad, -1),
                                       (bad, ('b',), True), (('a',), bad, True)]:
                error, attributes = raised(lambda: Effect(pops, pushes, peak=peak))
                self.assertIs(error, InvalidWord)
                self.assertIs(attributes['value'], bad)

    def test_by_name_in_another_order(self):
        self.assertEqual(Effect(peak=3, pushes=('b',), pops=('a',)), Effect(('a',), ('b',), peak=3))
        self.assertEqual(effect_of(steps=[('pop', 'a')]), Effect(('a',), ()))
        self.assertEqual(Effect(('a',), ()).apply(limit=5, stack=('a', 'b')), ('b',))

    def test_peak_and_limit_are_passed_by_name_only(self):
        self.assertRaises(TypeError, lambda: Effect((), (), 5))
        self.assertRaises(TypeError, lambda: Effect.nothing().apply((), 5))

    def test_properties_cannot_be_assigned(self):
        for effect in [Effect.never(), Effect(('a',), ('b', 'c'))]:
            before = values(effect)
            for name in PROPERTIES:
                self.assertRaises(AttributeError, lambda: setattr(effect, name, ()))
            self.assertEqual(values(effect), before)


class TestEqualityAndRepr(unittest.TestCase):
    def test_equal_exactly_if_all_parts_are(self):
        effects = small_effects('ab', 1, 1)
        for one, other in product(effects, repeat=2):
            same = (one.pops, one.pushes, one.peak) == (other.pops, other.pushes, other.peak)
            self.assertIs(one == other, same)
            self.assertIs(one != other, not same)

    def test_other_objects_with_the_same_parts(self):
        self.assertTrue(Effect.never() == Effect.never())
        self.assertTrue(Effect(('a',), ('b',)) == Effect(('a',), ('b',), peak=0))
        self.assertFalse(Effect(('a',), ('b',)) == Effect(('a',), ('b',), peak=1))
        self.assertFalse(Effect.never() == Effect.nothing())

    def test_other_values(self):
        for effect in [Effect.never(), Effect.nothing(), Effect(('a',), ('b',))]:
            for value in [None, (), ('a',), (('a',), ('b',), 0), repr(effect), 0, [], {}, Odd(), object(), Effect]:
                self.assertIs(effect == value, False)
                self.assertIs(effect != value, True)

    def test_repr(self):
        self.assertEqual(repr(Effect.never()), 'Effect.never()')
        self.assertEqual(repr(Effect.nothing()), 'Effect((), (), peak=0)')
        self.assertEqual(repr(Effect(('a', 'bc'), ('d',), peak=7)), "Effect(('a', 'bc'), ('d',), peak=7)")

    def test_repr_can_be_read_back(self):
        for effect in small_effects('ab', 2, 1):
            self.assertEqual(eval(repr(effect)), effect)


class TestThen(unittest.TestCase):
    def test_effects_of_the_joined_sequences(self):
        lists = step_lists('ab', 3)
        effects = [effect_of(steps) for steps in lists]
        for (first, one), (second, other) in product(zip(lists, effects), repeat=2):
            self.assertEqual(one.then(other), effect_of(first + second))

    def test_with_none_one_and_several_others(self):
        lists = step_lists('ab', 1) + [[('push', 'a'), ('pop', 'a')], [('push', 'a'), ('pop', 'b')]]
        for first, second, third in product(lists, repeat=3):
            effects = [effect_of(steps) for steps in (first, second, third)]
            self.assertEqual(effects[0].then(), effects[0])
            self.assertEqual(effects[0].then(effects[1], effects[2]), effect_of(first + second + third))
            self.assertEqual(effects[0].then(*effects), effect_of(first + first + second + third))

    def test_against_applying_one_after_the_other(self):
        effects = small_effects('ab', 2, 1)[::3]
        stacks = words('ab', 3)
        for one, other, limit in product(effects, effects, [None, 2, 4]):
            both = one.then(other)
            for stack in stacks:
                middle = one.apply(stack, limit=limit)
                expected = None if middle is None else other.apply(middle, limit=limit)
                self.assertEqual(both.apply(stack, limit=limit), expected)

    def test_never_on_either_side(self):
        never = Effect.never()
        for effect in small_effects('ab', 1, 1):
            self.assertEqual(never.then(effect), never)
            self.assertEqual(effect.then(never), never)
            self.assertEqual(effect.then(effect, never, effect), never)
        self.assertEqual(never.then(), never)

    def test_associativity(self):
        effects = small_effects('ab', 1, 1) + [Effect(('a', 'b'), ('b', 'a', 'a'), peak=2)]
        for one, two, three in product(effects, repeat=3):
            self.assertEqual(one.then(two).then(three), one.then(two.then(three)))
            self.assertEqual(one.then(two, three), one.then(two).then(three))

    def test_nothing_makes_no_difference(self):
        for effect in small_effects('ab', 2, 1):
            self.assertEqual(effect.then(Effect.nothing()), effect)
            self.assertEqual(Effect.nothing().then(effect), effect)

    def test_effects_do_not_change(self):
        effects = small_effects('ab', 1, 1)
        before = [values(effect) for effect in effects]
        for one, other in product(effects, repeat=2):
            one.then(other, one)
            one.reversal()
            one.apply(('a', 'b'), limit=3)
        self.assertEqual([values(effect) for effect in effects], before)

    def test_many_others(self):
        push = Effect((), ('a', 'b'))
        self.assertEqual(push.then(*[push] * 999), Effect((), ('a', 'b') * 1000))
        pop = Effect(('a', 'b'), ())
        self.assertEqual(push.then(*[pop] * 1001), Effect(('a', 'b') * 1000, (), peak=2))


class TestReversal(unittest.TestCase):
    def test_of_reversed_sequences(self):
        for steps in step_lists('ab', 4):
            self.assertEqual(effect_of(steps).reversal(), effect_of(reverse(steps)))

    def test_parts(self):
        for effect in small_effects('ab', 2, 2):
            back = effect.reversal()
            if effect.is_never:
                self.assertEqual(back, Effect.never())
            else:
                self.assertEqual(back, Effect(effect.pushes, effect.pops, peak=effect.peak - effect.change))
            self.assertEqual(back.reversal(), effect)

    def test_of_combined_effects(self):
        for one, other in product(small_effects('ab', 1, 1), repeat=2):
            self.assertEqual(one.then(other).reversal(), other.reversal().then(one.reversal()))


class TestApply(unittest.TestCase):
    def test_against_the_definition(self):
        for effect, stack, limit in product(small_effects('ab', 2, 2), words('ab', 3), LIMITS):
            expected = None
            if not effect.is_never and (limit is None or len(stack) + effect.peak <= limit):
                depth = len(effect.pops)
                if stack[:depth] == effect.pops:
                    expected = effect.pushes + stack[depth:]
            self.assertEqual(effect.apply(stack, limit=limit), expected)

    def test_high_stacks_and_peaks(self):
        self.assertEqual(Effect((), ()).apply(('a',) * 1000, limit=1000), ('a',) * 1000)
        self.assertIsNone(Effect((), ()).apply(('a',) * 1001, limit=1000))
        self.assertIsNone(Effect((), (), peak=1).apply(('a',) * 1000, limit=1000))
        self.assertEqual(Effect((), (), peak=10 ** 30).apply(('a',)), ('a',))
        self.assertIsNone(Effect((), (), peak=10 ** 30).apply(('a',), limit=1000))

    def test_wrong_stacks_then_wrong_limits(self):
        for effect in [Effect.never(), Effect(('a',), ('b',))]:
            for bad in NOT_WORDS:
                for limit in [None, 0, -1, True]:
                    error, attributes = raised(lambda: effect.apply(bad, limit=limit))
                    self.assertIs(error, InvalidWord)
                    self.assertIs(attributes['value'], bad)
            for limit in BAD_LIMITS + [Odd()]:
                error, attributes = raised(lambda: effect.apply(('c',), limit=limit))
                self.assertIs(error, InvalidNumber)
                self.assertIs(attributes['value'], limit)
            for limit in [None, 0, 1000]:
                self.assertIsNone(effect.apply(('c',), limit=limit))


if __name__ == '__main__':
    unittest.main()
