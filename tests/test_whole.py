"""Points [2] and [4]: what holds over the whole program."""

import unittest
from importlib import import_module
from inspect import signature
from itertools import islice
from random import Random

from stackeffect.arrange import fewest_stacks
from stackeffect.console import Console
from stackeffect.differences import commute, difference
from stackeffect.effects import Effect, effect_of
from stackeffect.errors import StepFailed
from stackeffect.observed import best_stack, outcomes, possible
from stackeffect.powers import Power, roots
from stackeffect.reach import check, is_reachable, least_blocks, reach, route
from stackeffect.session import Recorder, Session
from stackeffect.several import effects_of, interleavings, run_all, split
from stackeffect.shortest import shortest, shortest_length
from stackeffect.tables import accepts, first_stack, how_many, is_finite, stacks
from stackeffect.texts import format_effect, format_steps, parse_effect, parse_steps
from stackeffect.wanted import combination, refutation
from stackeffect.words import failing_index, reverse, run, trace
from tests.helpers import after_blocks, drawn_blocks, drawn_tables, drawn_word, raised, result, words

FUNCTIONS = {
    'words': ['is_item(value)', 'is_word(value)', 'is_sequence(value)', 'run(steps, stack, *, limit=None)',
              'failing_index(steps, stack, *, limit=None)', 'trace(steps, stack, *, limit=None)', 'reverse(steps)'],
    'effects': ['effect_of(steps)', 'Effect(pops, pushes, *, peak=None)', 'Effect.of(*steps)', 'Effect.never()',
                'Effect.nothing()', 'Effect.then(self, *others)', 'Effect.reversal(self)',
                'Effect.apply(self, stack, *, limit=None)'],
    'differences': ['difference(one, other, *, limit=None)', 'commute(one, other, *, limit=None)'],
    'shortest': ['shortest(effect)', 'shortest_length(effect)', 'shortest_many(effect, items)'],
    'powers': ['Power(effect, exponent)', 'Power.popped(self, index)', 'Power.pushed(self, index)',
               'Power.effect(self)', 'roots(effect)'],
    'counts': ['with_effect(effect, length, kinds, *, peak=None)', 'effects_many(length, kinds)'],
    'tables': ['is_table(value)', 'accepts(table, stack)', 'stacks(table)', 'first_stack(table)', 'is_finite(table)',
               'how_many(table, height)'],
    'reach': ['reach(blocks, start)', 'check(blocks, start, table)', 'is_reachable(blocks, start, goal)',
              'least_blocks(blocks, start, goal)', 'route(blocks, start, goal, *, most=1000)'],
    'wanted': ['combination(blocks, effect, *, most=1000)', 'refutation(blocks, effect)'],
    'several': ['split(steps)', 'effects_of(steps)', 'run_all(steps, stacks)', 'interleavings(steps)'],
    'arrange': ['conflicts(order)', 'is_assignment(order, value)', 'fewest_stacks(order)', 'moves(order, assignment)',
                'orders_many(n, stacks)'],
    'observed': ['possible(candidates, observations)', 'outcomes(candidates, stack)', 'best_stack(candidates)'],
    'session': ['Session(*, limit=None, **stacks)', 'Session.stack(self, name)', 'Session.names(self)',
                'Session.push(self, name, item)', 'Session.pop(self, name, item)', 'Session.perform(self, steps)',
                'Session.set_limit(self, value)', 'Session.undo(self)', 'Session.effect(self, name)',
                'Session.copy(self)', 'Recorder(*, limit=None, **stacks)', 'Recorder.failures(self)'],
    'texts': ['format_word(word)', 'format_steps(steps)', 'format_effect(effect)', 'parse_word(text)',
              'parse_steps(text)', 'parse_effect(text)'],
    'console': ['Console()', 'Console.run(self, line)'],
}
PROPERTIES = {'effects': ('Effect', ['pops', 'pushes', 'peak', 'change', 'is_never', 'is_neutral']),
              'powers': ('Power', ['is_never', 'pops_length', 'pushes_length', 'peak']), 'session': ('Session', ['limit'])}
RENAMINGS = [{'a': 'b', 'b': 'c', 'c': 'd'}, {'a': 'b', 'b': 'bb', 'c': 'zzzzzzzz'}, {'a': 'pop', 'b': 'push', 'c': 'q'}]


def drawn_steps(random, items, many):
    """Steps that often pop what is on top."""
    steps, top = [], []
    for at in range(many):
        if top and random.random() < 0.5:
            steps.append(('pop', top.pop() if random.random() < 0.9 else random.choice(items)))
        elif random.random() < 0.3:
            steps.append(('pop', random.choice(items)))
        else:
            top.append(random.choice(items))
            steps.append(('push', top[-1]))
    return steps


class TestOneEffectSeenByAllParts(unittest.TestCase):
    def cases(self, seed):
        random = Random(seed)
        for case in range(250):
            yield random, drawn_steps(random, 'ab', random.randrange(13))

    def test_a_sequence_and_what_has_its_effect(self):
        for random, steps in self.cases(1):
            effect = effect_of(steps)
            others = [effect_of(shortest(effect)), Power(effect, 1).effect(), effect.reversal().reversal(),
                      effect_of(reverse(reverse(steps))), effect_of(reverse(steps)).reversal(), Effect.of(*steps),
                      effect.then(), effect.then(Effect.nothing()), Effect.nothing().then(effect)]
            self.assertEqual(others, [effect] * len(others))
            self.assertEqual([difference(effect, other) for other in others], [None] * len(others))
            for stack in words('ab', 4):
                for limit in (None, 0, 2, 4, 6):
                    expected = result(steps, stack, limit)
                    self.assertEqual(run(steps, stack, limit=limit), expected)
                    self.assertEqual(effect.apply(stack, limit=limit), expected)
                    self.assertEqual(run(shortest(effect), stack, limit=limit), expected)

    def test_the_one_block_with_this_effect(self):
        for random, steps in self.cases(2):
            effect = effect_of(steps)
            blocks = {'block': effect}
            if effect.is_never:
                self.assertEqual(list(stacks(reach(blocks, ('a', 'b')))), [('a', 'b')])
                continue
            for below in [(), drawn_word(random, 'ab', range(4))]:
                start = effect.pops + below
                table = reach(blocks, start)
                stack, many, seen = start, 0, []
                while stack is not None and len(stack) <= 30 and many < 6 and stack not in seen:
                    seen.append(stack)
                    self.assertIs(accepts(table, stack), True)
                    self.assertEqual(least_blocks(blocks, start, stack), many)
                    self.assertEqual(route(blocks, start, stack), ['block'] * many)
                    power = Power(effect, many)
                    self.assertEqual(power.effect().apply(start), stack)
                    stack, many = result(steps, stack, None), many + 1
                self.assertIs(check(blocks, start, table), True)
                self.assertIs(is_reachable(blocks, start, effect.pushes + below), True)

    def test_a_combination_of_this_one_block(self):
        for random, steps in self.cases(3):
            effect = effect_of(steps)
            if effect.is_never:
                self.assertIsNone(combination({'block': effect}, Effect((), ('a',))))
                continue
            self.assertEqual(combination({'block': effect}, effect), [] if effect.is_neutral else ['block'])
            self.assertIsNone(refutation({'block': effect}, effect))
            twice = Power(effect, 2)
            if not twice.is_never and not effect.is_neutral:
                self.assertEqual(combination({'block': effect}, twice.effect()), ['block'] * 2)

    def test_single_steps_as_blocks(self):
        blocks = {'ina': Effect((), ('a',)), 'inb': Effect((), ('b',)), 'outa': Effect(('a',), ()),
                  'outb': Effect(('b',), ())}
        for random, steps in self.cases(4):
            effect = effect_of(steps)
            if not effect.is_never:
                lowest = Effect(effect.pops, effect.pushes)
                shared = 0
                while effect.pops[::-1][shared:shared + 1] == effect.pushes[::-1][shared:shared + 1] != ():
                    shared += 1
                names = combination(blocks, effect)
                self.assertEqual(len(names), len(shortest(lowest)) - 2 * shared)
                self.assertEqual(len(names), least_blocks(blocks, effect.pops, effect.pushes))

    def test_a_sequence_on_one_of_several_stacks(self):
        for random, steps in self.cases(5):
            effect = effect_of(steps)
            named = [(action, 'x', item) for action, item in steps]
            self.assertEqual(effects_of(named), None if effect.is_never else {'x': effect} if steps else {})
            for stack in words('ab', 3):
                expected = effect.apply(stack)
                self.assertEqual(run_all(named, {'x': stack}), None if expected is None else {'x': expected})


class TestTheInterface(unittest.TestCase):
    def test_names_and_parameters(self):
        for module, lines in FUNCTIONS.items():
            found = import_module(f'stackeffect.{module}')
            for line in lines:
                with self.subTest(module=module, line=line):
                    path = line.split('(')[0].split('.')
                    value = found
                    for name in path:
                        self.assertIn(name, vars(value))
                        value = getattr(value, name)
                    self.assertEqual(f'{".".join(path)}{signature(value)}', line)

    def test_properties(self):
        for module, (name, properties) in PROPERTIES.items():
            members = vars(getattr(import_module(f'stackeffect.{module}'), name))
            for member in properties:
                self.assertIsInstance(members[member], property)
                self.assertIs(members[member].fset is None, member != 'limit')


class TestSeveralStacks(unittest.TestCase):
    def drawn(self, random, many):
        found = []
        for name in 'xyz':
            found += [(action, name, item) for action, item in drawn_steps(random, 'ab', random.randrange(many))]
        return found

    def interleaved(self, random, steps):
        """The steps in a drawn order that is the same on each stack."""
        left = {name: [step for step in steps if step[1] == name] for name in 'xyz'}
        found = []
        while any(left.values()):
            name = random.choice([name for name in left if left[name]])
            found.append(left[name].pop(0))
        return found

    def test_interleaved_orders(self):
        random = Random(6)
        for case in range(150):
            steps = self.drawn(random, 7)
            given = {name: drawn_word(random, 'ab', range(4)) for name in 'xy'}
            for time in range(4):
                other = self.interleaved(random, steps)
                self.assertEqual(effects_of(other), effects_of(steps))
                self.assertEqual(run_all(other, given), run_all(steps, given))
                self.assertEqual(interleavings(other), interleavings(steps))
                self.assertEqual(split(other), split(steps))
                sessions = [Session(**given), Session(**given)]
                errors = [raised(lambda: session.perform(one)) for session, one in zip(sessions, (steps, other))]
                self.assertEqual(*[error and error[0] for error in errors])
                self.assertEqual(*sessions)

    def test_sessions_and_effects_agree(self):
        random = Random(7)
        for case in range(150):
            given = {name: drawn_word(random, 'ab', range(5)) for name in 'xy'}
            limit = random.choice([None, 4, 6])
            session, done = Recorder(limit=limit, **given), []
            for deed in range(8):
                steps = self.drawn(random, 3)
                index = next((at for at in range(len(steps)) if run_limited(done + steps[:at + 1], given, limit) is None),
                             None)
                self.assertEqual(raised(lambda: session.perform(steps)),
                                 None if index is None else (StepFailed, {'index': index}))
                done += steps if index is None else []
            after = run_all(done, given)
            effects = effects_of(done)
            for name in 'xyz':
                self.assertEqual(session.stack(name), after.get(name, ()))
                effect = effects.get(name, Effect.nothing())
                self.assertEqual(session.effect(name), effect)
                self.assertEqual(effect.apply(given.get(name, ()), limit=limit), session.stack(name))
            while len(session):
                session.undo()
            self.assertEqual(session, Session(limit=limit, **given))

    def test_an_order_without_one_item(self):
        random = Random(8)
        for case in range(100):
            order = random.sample(range(9), 9)
            gone = random.choice(order)
            rest = [item - (item > gone) for item in order if item != gone]
            self.assertLessEqual(fewest_stacks(rest)[0], fewest_stacks(order)[0])


def run_limited(steps, given, limit):
    """What run_all returns, if no stack exceeds the limit on the way; otherwise None."""
    after = {name: run(part, given.get(name, ()), limit=limit) for name, part in split(steps).items()}
    return None if None in after.values() else after


def renamed(value, names):
    """A value made of words, steps, effects, lists, tuples and dicts, with its items renamed."""
    if isinstance(value, Effect):
        return value if value.is_never else Effect(renamed(value.pops, names), renamed(value.pushes, names), peak=value.peak)
    if isinstance(value, (list, tuple)):
        return value.__class__(renamed(part, names) for part in value)
    if isinstance(value, dict):
        return {key: renamed(part, names) for key, part in value.items()}
    return names.get(value, value) if isinstance(value, str) else value


class TestRenamedItems(unittest.TestCase):
    def check(self, function, *values):
        for names in RENAMINGS:
            found = function(*(renamed(value, names) for value in values))
            self.assertEqual(found, renamed(function(*values), names))

    def test_sequences_and_effects(self):
        random = Random(9)
        for case in range(150):
            one, two = (drawn_steps(random, 'abc', random.randrange(9)) for time in range(2))
            stack = drawn_word(random, 'abc', range(5))
            for function in (run, failing_index, lambda steps, stack: list(trace(steps, stack))):
                self.check(function, one, stack)
            self.check(reverse, one)
            self.check(effect_of, one)
            effects = effect_of(one), effect_of(two)
            self.check(lambda effect, other: effect.then(other), *effects)
            self.check(lambda effect: effect.reversal(), effects[0])
            self.check(difference, *effects)
            self.check(commute, *effects)
            self.check(shortest_length, effects[0])
            self.check(roots, Effect((), effects[0].pops or ()))
            self.check(lambda effect: Power(effect, 3).effect(), effects[0])

    def test_tables_and_blocks(self):
        random = Random(10)
        for table in drawn_tables(random, 80):
            self.check(lambda table: list(islice(stacks(table), 20)), table)
            self.check(first_stack, table)
            self.check(lambda table: [is_finite(table)] + [how_many(table, height) for height in range(5)], table)
        for case in range(60):
            blocks = drawn_blocks(random, 'abc', (0, 1, 1, 2, 3), 3)
            start, goal = (drawn_word(random, 'abc', range(4)) for time in range(2))
            self.check(least_blocks, blocks, start, goal)
            self.check(is_reachable, blocks, start, goal)
            for names in RENAMINGS:
                other = renamed(blocks, names)
                found = route(other, renamed(start, names), renamed(goal, names))
                if found is not None:
                    self.assertEqual(after_blocks(other, found, renamed(start, names)), renamed(goal, names))

    def test_observations(self):
        random = Random(11)
        for case in range(100):
            candidates = list(drawn_blocks(random, 'abc', (0, 1, 1, 2), random.randrange(1, 8)).values())
            stack = drawn_word(random, 'abc', range(4))
            self.check(best_stack, candidates)
            self.check(outcomes, candidates, stack)
            self.check(possible, candidates, [(stack, candidates[0].apply(stack))])

    def test_texts_and_the_console(self):
        random = Random(12)
        for case in range(60):
            steps = drawn_steps(random, 'abc', random.randrange(8))
            self.check(lambda steps: parse_steps(format_steps(steps)), steps)
            self.check(lambda effect: parse_effect(format_effect(effect)), effect_of(steps))
            self.check(lambda steps: parse_effect(Console().run(f'define x {format_steps(steps)}')), steps)


if __name__ == '__main__':
    unittest.main()
