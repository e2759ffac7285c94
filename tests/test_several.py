"""Point [13]: steps on several named stacks."""

import unittest
from itertools import permutations, product
from math import factorial, prod
from random import Random
from reprlib import repr as shortened

from stackeffect.effects import Effect
from stackeffect.errors import InvalidStacks, InvalidSteps
from stackeffect.several import effects_of, interleavings, run_all, split
from tests.helpers import NOT_WORDS, Odd, drawn_word, other_values, raised, result, small_effects, stages

EXAMPLE = [('push', 'x', 'a'), ('pop', 'y', 'b'), ('pop', 'x', 'a')]
FUNCTIONS = [split, effects_of, interleavings, lambda steps: run_all(steps, {})]
BAD_STEPS = [None, (), ('push', 'a'), ('push', 'a', 'a', 'a'), ['push', 'a', 'a'], ('Push', 'a', 'a'), ('in', 'a', 'a'),
             (None, 'a', 'a'), (['push'], 'a', 'a'), ({}, 'a', 'a'), (Odd(), 'a', 'a'), ('push', '', 'a'),
             ('push', 'a', ''), ('push', 'A', 'a'), ('push', 'a', 'A'), ('push', 'abcdefghi', 'a'),
             ('push', 'a', 'abcdefghi'), ('push', None, 'a'), ('push', 'a', None), ('push', ('a',), 'a'),
             ('push', 'a', ('a',)), ('push', Odd(), 'a'), ('push', 'a', Odd()), ('push', 1, 'a'), ('pop', 'a', 1),
             ('pop', True, 'a'), ('a', 'push', 'a'), 'abc', 'push', 5, True, Odd(), {'push': 1, 'a': 2, 'b': 3},
             ('push', b'a', 'a'), ('push', 'a', b'a'), b'abc', [('push', 'a', 'a')]]
NOT_STEPS = [value for value in other_values()] + ['', 'push', [('push', 'a', 'a')] * 1001, (('pop', 'a', 'a'),) * 1001,
                                                   {('push', 'a', 'a'): 1}, {('push', 'a', 'a')}]
NOT_STACKS = [value for value in other_values() if value != {}] + [
    [], (), '', 'a', [('a', ('b',))], (('a', ('b',)),), {'': ()}, {'A': ()}, {'abcdefghi': ()}, {1: ()}, {None: ()},
    {('a',): ()}, {True: ()}, {b'a': ()}, {'a': (), 'B': ()}, *[{'a': value} for value in NOT_WORDS],
    *[{'a': ('b',), 'b': value, 'c': ()} for value in NOT_WORDS]]


def drawn_steps(random, names, items, many):
    """Steps that often pop what is there."""
    stacks, steps = {name: [] for name in names}, []
    for at in range(many):
        name = random.choice(names)
        if stacks[name] and random.random() < 0.45:
            item = stacks[name].pop() if random.random() < 0.9 else random.choice(items)
            steps.append(('pop', name, item))
        elif random.random() < 0.1:
            steps.append(('pop', name, random.choice(items)))
        else:
            stacks[name].append(random.choice(items))
            steps.append(('push', name, stacks[name][-1]))
    return steps


def names_in_order(steps):
    return list(dict.fromkeys(name for action, name, item in steps))


def own_steps(steps, name):
    return [(action, item) for action, other, item in steps if other == name]


def simulated(steps, stacks):
    """The stacks after the steps, one after the other, or None."""
    top_last = {name: list(stack)[::-1] for name, stack in stacks.items()}
    for action, name, item in steps:
        stack = top_last.setdefault(name, [])
        if action == 'push':
            stack.append(item)
        elif stack[-1:] == [item]:
            stack.pop()
        else:
            return None
    return {name: tuple(stack[::-1]) for name, stack in top_last.items()}


class TestExamples(unittest.TestCase):
    def test_examples(self):
        self.assertEqual(run_all(EXAMPLE, {'y': ('b', 'c')}), {'y': ('c',), 'x': ()})
        self.assertEqual(interleavings(EXAMPLE), 3)


class TestSplit(unittest.TestCase):
    def test_against_the_definition(self):
        random = Random(1)
        for case in range(200):
            steps = drawn_steps(random, ['b', 'a', 'push', 'abcdefgh'], ['a', 'b', 'pop'], random.randrange(20))
            for given in (steps, tuple(steps)):
                found = split(given)
                self.assertEqual(list(found), names_in_order(steps))
                self.assertEqual(found, {name: own_steps(steps, name) for name in found})
                self.assertEqual({value.__class__ for value in found.values()} - {list}, set())

    def test_the_order_of_the_names(self):
        for names in permutations('abc'):
            steps = [('push', name, 'x') for name in names] + [('pop', name, 'x') for name in names[::-1]]
            self.assertEqual(list(split(steps)), list(names))
            self.assertEqual(list(effects_of(steps)), list(names))

    def test_few_and_many_steps(self):
        for empty in ([], ()):
            self.assertEqual(split(empty), {})
            self.assertEqual(effects_of(empty), {})
            self.assertEqual(run_all(empty, {}), {})
            self.assertEqual(interleavings(empty), 1)
        many = [('push', 'a', 'b')] * 1000
        self.assertEqual(split(many), {'a': [('push', 'b')] * 1000})
        self.assertEqual(effects_of(tuple(many)), {'a': Effect((), ('b',) * 1000)})
        self.assertEqual(run_all(many, {'a': ('c',)}), {'a': ('b',) * 1000 + ('c',)})
        self.assertEqual(interleavings(many), 1)


class TestEffects(unittest.TestCase):
    def own_effect(self, steps):
        """The effect of steps on one stack, from the shortest stack on which they succeed, or never."""
        needed = []
        while True:
            seen, failed = stages(steps, tuple(needed), None)
            if failed is None:
                heights = [len(stack) for stack in seen]
                return Effect(tuple(needed), seen[-1][:len(seen[-1])], peak=max(heights) - len(needed))
            if seen[-1]:
                return Effect.never()
            needed.append(steps[failed][1])

    def test_against_simulations(self):
        random, seen = Random(2), set()
        for case in range(300):
            steps = drawn_steps(random, ['b', 'a', 'c'], 'xy', random.randrange(14))
            expected = {name: self.own_effect(own_steps(steps, name)) for name in names_in_order(steps)}
            if any(effect.is_never for effect in expected.values()):
                expected = None
            found = effects_of(steps)
            seen.add(found is None)
            self.assertEqual(found, expected)
            if found is not None:
                self.assertEqual(list(found), names_in_order(steps))
        self.assertEqual(seen, {True, False})

    def test_one_effect_is_never(self):
        steps = [('push', 'x', 'a'), ('push', 'y', 'a'), ('pop', 'y', 'b'), ('push', 'z', 'a')]
        self.assertIsNone(effects_of(steps))
        self.assertEqual(effects_of(steps[:2]), {'x': Effect((), ('a',)), 'y': Effect((), ('a',))})
        self.assertIsNone(run_all(steps, {'y': ('b', 'b')}))

    def test_effects_act_independently(self):
        random = Random(3)
        for case in range(300):
            names = random.sample(['b', 'a', 'c', 'd'], random.randrange(1, 5))
            steps = drawn_steps(random, names, 'xy', random.randrange(12))
            stacks = {name: drawn_word(random, 'xy', range(4)) for name in random.sample('abcde', 3)}
            effects = effects_of(steps)
            expected = None
            if effects is not None:
                after = {name: effect.apply(stacks.get(name, ())) for name, effect in effects.items()}
                expected = None if None in after.values() else {**stacks, **after}
            self.assertEqual(run_all(steps, stacks), expected)


class TestRunAll(unittest.TestCase):
    def test_against_simulations(self):
        random, seen = Random(4), set()
        for case in range(600):
            names = random.sample(['b', 'a', 'c', 'd'], random.randrange(1, 5))
            steps = drawn_steps(random, names, 'xy', random.randrange(12))
            stacks = {name: drawn_word(random, 'xy', range(4)) for name in random.sample('abcde', random.randrange(5))}
            found = run_all(steps, stacks)
            self.assertEqual(found, simulated(steps, stacks))
            seen.add(found is None)
        self.assertEqual(seen, {True, False})

    def test_all_short_sequences(self):
        steps = [(action, name, item) for action in ('push', 'pop') for name in 'xy' for item in 'ab']
        for many in range(4):
            for chosen in product(steps, repeat=many):
                for stacks in [{}, {'x': ('a',)}, {'y': ('a', 'b'), 'x': ()}]:
                    self.assertEqual(run_all(chosen, stacks), simulated(chosen, stacks))

    def test_missing_names_stand_for_empty_stacks(self):
        self.assertEqual(run_all([('push', 'x', 'a')], {}), {'x': ('a',)})
        self.assertIsNone(run_all([('pop', 'x', 'a')], {'y': ('a',)}))
        self.assertEqual(run_all([('push', 'x', 'a'), ('pop', 'x', 'a')], {'y': ()}), {'x': (), 'y': ()})
        self.assertEqual(run_all([], {'x': ('a',), 'y': ()}), {'x': ('a',), 'y': ()})

    def test_the_order_of_the_dict_makes_no_difference(self):
        for names in permutations(['z', 'a', 'm']):
            found = run_all([('push', 'b', 'x'), ('push', 'm', 'x')], {name: () for name in names})
            self.assertEqual(list(found.items()), [('a', ()), ('m', ('x',)), ('z', ()), ('b', ('x',))])


class TestInterleavings(unittest.TestCase):
    def test_against_all_orders(self):
        random = Random(5)
        for case in range(60):
            steps = drawn_steps(random, 'xyz', 'ab', random.randrange(7))
            by_stack = {name: own_steps(steps, name) for name in 'xyz'}
            found = {other for other in permutations(steps)
                     if all(own_steps(other, name) == by_stack[name] for name in 'xyz')}
            self.assertEqual(interleavings(steps), len(found))

    def test_each_has_the_same_effects_and_results(self):
        random = Random(6)
        for case in range(20):
            steps = drawn_steps(random, 'xyz', 'ab', 5)
            stacks = {name: drawn_word(random, 'ab', range(3)) for name in 'xyz'}
            for other in set(permutations(steps)):
                if all(own_steps(other, name) == own_steps(steps, name) for name in 'xyz'):
                    self.assertEqual(effects_of(other), effects_of(steps))
                    self.assertEqual(run_all(other, stacks), run_all(steps, stacks))

    def test_many_steps(self):
        random = Random(7)
        for many in [200, 200, 150, 77]:
            for names in ['a', 'ab', 'abc', 'abcd']:
                steps = drawn_steps(random, names, 'xy', many)
                lengths = [len(own_steps(steps, name)) for name in names]
                self.assertEqual(interleavings(steps), factorial(many) // prod(factorial(length) for length in lengths))
        even = [('push', name, 'a') for name in 'abcd'] * 50
        self.assertEqual(interleavings(even), factorial(200) // factorial(50) ** 4)
        self.assertEqual(interleavings([('push', name, 'a') for name in 'abcd'] * 250),
                         factorial(1000) // factorial(250) ** 4)

    def test_equal_steps_on_one_stack(self):
        self.assertEqual(interleavings([('push', 'x', 'a')] * 3 + [('push', 'y', 'a')] * 2), 10)
        self.assertEqual(interleavings([('push', name, 'a') for name in 'abcde']), 120)


class TestErrors(unittest.TestCase):
    def test_the_index_of_the_first_wrong_step(self):
        for bad, index, function in product(BAD_STEPS, range(3), FUNCTIONS):
            steps = list(EXAMPLE)
            steps[index] = bad
            with self.subTest(shortened(bad), index=index):
                self.assertEqual(raised(lambda: function(steps)), (InvalidSteps, {'index': index}))
                self.assertEqual(raised(lambda: function(tuple(steps) + (None,))), (InvalidSteps, {'index': index}))

    def test_values_that_are_not_lists_of_steps(self):
        for value, function in product(NOT_STEPS, FUNCTIONS):
            with self.subTest(shortened(value)):
                self.assertEqual(raised(lambda: function(value)), (InvalidSteps, {'index': None}))

    def test_stacks(self):
        for value in NOT_STACKS:
            with self.subTest(shortened(value)):
                for steps in (EXAMPLE, [], [('pop', 'x', 'a')]):
                    error, attributes = raised(lambda: run_all(steps, value))
                    self.assertIs(error, InvalidStacks)
                    self.assertIs(attributes['value'], value)
                self.assertEqual(raised(lambda: run_all([None], value)), (InvalidSteps, {'index': 0}))
                self.assertEqual(raised(lambda: run_all(None, value)), (InvalidSteps, {'index': None}))


class TestCalls(unittest.TestCase):
    def test_by_name_in_another_order(self):
        self.assertEqual(run_all(stacks={'y': ('b',)}, steps=EXAMPLE), {'y': (), 'x': ()})
        self.assertEqual(split(steps=EXAMPLE), {'x': [('push', 'a'), ('pop', 'a')], 'y': [('pop', 'b')]})
        self.assertEqual(effects_of(steps=EXAMPLE), {'x': Effect((), (), peak=1), 'y': Effect(('b',), ())})
        self.assertEqual(interleavings(steps=EXAMPLE), 3)

    def test_arguments_do_not_change_and_results_are_new(self):
        steps, stacks = list(EXAMPLE), {'y': ('b', 'c')}
        found = split(steps)
        found['x'].append('x')
        found['new'] = []
        effects_of(steps)['new'] = None
        run_all(steps, stacks)['new'] = ()
        same = run_all([], stacks)
        same['y'] = ()
        self.assertEqual((steps, stacks), (EXAMPLE, {'y': ('b', 'c')}))
        self.assertEqual(split(steps), {'x': [('push', 'a'), ('pop', 'a')], 'y': [('pop', 'b')]})
        self.assertEqual(list(effects_of(steps)), ['x', 'y'])
        self.assertEqual(run_all(steps, stacks), {'y': ('c',), 'x': ()})

    def test_one_stack_is_as_a_single_one(self):
        for effect in small_effects('ab', 1, 1)[1:]:
            steps = [('pop', item) for item in effect.pops] + [('push', item) for item in effect.pushes[::-1]]
            for stack in [(), ('a',), ('b', 'a')]:
                expected = result(steps, stack, None)
                found = run_all([(action, 'x', item) for action, item in steps], {'x': stack})
                self.assertEqual(found, None if expected is None else {'x': expected})


if __name__ == '__main__':
    unittest.main()
