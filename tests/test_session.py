"""Point [16]: sessions and recorders."""

import unittest
from random import Random
from reprlib import repr as shortened

from stackeffect.effects import Effect
from stackeffect.errors import (InvalidNumber, InvalidStacks, InvalidSteps, InvalidWord, LimitExceeded, NothingToUndo,
                                StepFailed)
from stackeffect.session import Recorder, Session
from tests.helpers import BAD_LIMITS, NOT_WORDS, Odd, drawn_word, other_values, raised

BAD_NAMES = ['', 'A', 'a1', 'abcdefghi', 'a b', None, 0, True, b'a', ('a',), ['a'], {}, Odd()]
NAMES = ['b', 'a', 'limit', 'self', 'abcdefgh']
BAD_STEPS = [None, (), ('push', 'a'), ('push', 'a', 'a', 'a'), ['push', 'a', 'a'], ('Push', 'a', 'a'), ('push', 'A', 'a'),
             ('push', 'a', 'A'), ('push', None, 'a'), ('push', 'a', None), ({}, 'a', 'a'), 'abc', 5, Odd(),
             (Odd(), 'a', 'a'), ('push', Odd(), 'a'), ('push', 'a', Odd())]


class Model:
    """What a session has to do, kept as plain lists with their tops last, and as copies of all earlier states."""

    def __init__(self, limit, stacks):
        self.stacks = {name: list(stack)[::-1] for name, stack in stacks.items()}
        self.limit, self.earlier, self.failed = limit, [], {}

    def state(self):
        return {name: list(stack) for name, stack in self.stacks.items()}, self.limit

    def stack(self, name):
        return tuple(self.stacks.get(name, [])[::-1])

    def names(self):
        return sorted(name for name, stack in self.stacks.items() if stack)

    def perform(self, steps):
        """The index of the step that fails, or None."""
        before, limit = self.state()
        for index, (action, name, item) in enumerate(steps):
            stack = self.stacks.setdefault(name, [])
            if action == 'push' and (limit is None or len(stack) < limit):
                stack.append(item)
            elif action == 'pop' and stack[-1:] == [item]:
                stack.pop()
            else:
                self.stacks = before
                self.failed[name] = self.failed.get(name, 0) + 1
                return index
        self.earlier.append((before, limit, list(steps)))
        return None

    def set_limit(self, value):
        """Whether no stack is higher."""
        if value is not None and any(len(stack) > value for stack in self.stacks.values()):
            return False
        before, limit = self.state()
        self.earlier.append((before, limit, []))
        self.limit = value
        return True

    def undo(self):
        """Whether there was a deed."""
        if not self.earlier:
            return False
        self.stacks, self.limit, steps = self.earlier.pop()
        return True

    def effect(self, name):
        """The effect of all steps on a stack, from the heights and items that they pass through."""
        needed, top_last, peak = [], [], 0
        for before, limit, steps in self.earlier:
            for action, other, item in steps:
                if other == name and action == 'push':
                    top_last.append(item)
                elif other == name:
                    if top_last:
                        top_last.pop()
                    else:
                        needed.append(item)
                peak = max(peak, len(top_last) - len(needed))
        return Effect(tuple(needed), tuple(top_last[::-1]), peak=peak)


def drawn_session(random, kind):
    limit = random.choice([None, None, 3, 4, 6])
    stacks = {name: drawn_word(random, 'xy', range(4)) for name in random.sample(['a', 'b', 'c', 'abcdefgh'], 2)}
    return kind(limit=limit, **stacks), Model(limit, stacks)


def drawn_step(random, model):
    name = random.choice(NAMES)
    top = model.stack(name)[:1]
    if random.random() < 0.4:
        return ('pop', name, top[0] if top and random.random() < 0.8 else random.choice('xy'))
    return ('push', name, random.choice('xy'))


class TestExamples(unittest.TestCase):
    def test_examples(self):
        session = Session(limit=2, x=('a',))
        self.assertIsNone(session.push('x', 'b'))
        self.assertEqual(session.stack('x'), ('b', 'a'))
        self.assertEqual(raised(lambda: session.push('x', 'c')), (StepFailed, {'index': 0}))
        session.limit = 4
        self.assertEqual([session.limit, len(session)], [4, 2])


class TestBesideAModel(unittest.TestCase):
    def compare(self, session, model):
        self.assertEqual(session.names(), model.names())
        for name in [*NAMES, 'c', 'zz']:
            self.assertEqual(session.stack(name), model.stack(name))
            self.assertEqual(session.effect(name), model.effect(name))
        self.assertEqual(session.limit, model.limit)
        self.assertEqual(len(session), len(model.earlier))
        if isinstance(session, Recorder):
            self.assertEqual(list(session.failures().items()), sorted(model.failed.items()))

    def check_steps(self, action, model, steps):
        failed = model.perform(steps)
        self.assertEqual(raised(action), None if failed is None else (StepFailed, {'index': failed}))

    def one_deed(self, random, session, model):
        kind = random.choice(['push', 'pop', 'perform', 'perform', 'assign', 'set', 'undo', 'invalid'])
        if kind in ('push', 'pop'):
            action, name, item = drawn_step(random, model)
            method = session.push if action == 'push' else session.pop
            self.check_steps(lambda: method(name, item), model, [(action, name, item)])
        elif kind == 'perform':
            steps = [drawn_step(random, model) for at in range(random.randrange(5))]
            given = random.choice([list, tuple])(steps)
            self.check_steps(lambda: session.perform(given), model, steps)
        elif kind in ('assign', 'set'):
            value = random.choice([None, 0, 2, 3, 4, 5, 1000])
            action = (lambda: setattr(session, 'limit', value)) if kind == 'assign' else (lambda: session.set_limit(value))
            self.assertEqual(raised(action), None if model.set_limit(value) else (LimitExceeded, {'limit': value}))
        elif kind == 'undo':
            self.assertEqual(raised(session.undo), None if model.undo() else (NothingToUndo, {'count': 0}))
        else:
            steps = [drawn_step(random, model), drawn_step(random, model), ('push', 'A', 'x')]
            self.assertEqual(raised(lambda: session.perform(steps)), (InvalidSteps, {'index': 2}))

    def test_many_deeds(self):
        random, deeds = Random(1), 0
        for kind in [Session, Recorder] * 20:
            session, model = drawn_session(random, kind)
            for at in range(60):
                self.one_deed(random, session, model)
                self.compare(session, model)
            deeds += len(session)
            while model.undo():
                self.assertIsNone(session.undo())
                self.compare(session, model)
            self.assertEqual(raised(session.undo), (NothingToUndo, {'count': 0}))
        self.assertGreater(deeds, 300)

    def test_copies_in_the_middle(self):
        random = Random(2)
        for kind in [Session, Recorder] * 10:
            session, model = drawn_session(random, kind)
            for at in range(20):
                self.one_deed(random, session, model)
            copied = session.copy()
            self.assertIs(copied.__class__, kind)
            self.assertEqual(copied, session)
            self.compare(copied, model)
            before = session.names(), [session.stack(name) for name in NAMES], session.limit, len(session)
            for at in range(20):
                self.one_deed(random, copied, model)
                self.compare(copied, model)
            self.assertEqual((session.names(), [session.stack(name) for name in NAMES], session.limit, len(session)),
                             before)
            while model.undo():
                copied.undo()
                self.compare(copied, model)
            self.assertEqual(len(session), before[-1])

    def test_the_other_way_round(self):
        random = Random(3)
        for kind in [Session, Recorder] * 10:
            session, model = drawn_session(random, kind)
            for at in range(15):
                self.one_deed(random, session, model)
            copied = session.copy()
            kept = Model(None, {})
            kept.stacks, kept.limit = model.state()
            kept.earlier, kept.failed = list(model.earlier), dict(model.failed)
            for at in range(15):
                self.one_deed(random, session, model)
            self.compare(copied, kept)


class TestMaking(unittest.TestCase):
    def test_no_arguments(self):
        for kind in (Session, Recorder):
            session = kind()
            self.assertEqual((session.limit, session.names(), len(session)), (None, [], 0))
            self.assertEqual(session.stack('x'), ())

    def test_stacks_and_limits(self):
        for kind in (Session, Recorder):
            session = kind(b=('x', 'y'), a=(), abcdefgh=('x',), limit=2)
            self.assertEqual(session.names(), ['abcdefgh', 'b'])
            self.assertEqual([session.stack(name) for name in ('a', 'b', 'abcdefgh')], [(), ('x', 'y'), ('x',)])
            self.assertEqual((session.limit, len(session)), (2, 0))
            for limit in (None, 0, 1, 999, 1000):
                self.assertEqual(kind(limit=limit).limit, limit)
            self.assertEqual(kind(given=('a',), name=('b',), stacks=('c',), kind=('d',)).names(),
                             ['given', 'kind', 'name', 'stacks'])

    def test_the_order_of_errors(self):
        for kind in (Session, Recorder):
            for limit in BAD_LIMITS:
                for stacks in ({}, {'a': ('x',)}, {'A': ()}, {'a': None}):
                    error, attributes = raised(lambda: kind(limit=limit, **stacks))
                    self.assertIs(error, InvalidNumber)
                    self.assertIs(attributes['value'], limit)
            bad = [{name: ('x',)} for name in ['', 'A', 'a1', 'abcdefghi', 'a_b', 'a b']]
            bad += [{'a': value} for value in NOT_WORDS] + [{'a': ('x', 'x'), 'b': None}, {'b': ['x'], 'a': ()}]
            for stacks in bad:
                for limit in (None, 0, 1):
                    with self.subTest(shortened(stacks)):
                        error, attributes = raised(lambda: kind(limit=limit, **stacks))
                        self.assertIs(error, InvalidStacks)
                        self.assertEqual(repr(attributes['value']), repr(stacks))
                        self.assertIs(attributes['value'].__class__, dict)
            for limit, stacks in [(0, {'a': ('x',)}), (1, {'a': ('x',), 'b': ('x', 'y')}), (2, {'b': ('x',) * 1001})]:
                self.assertEqual(raised(lambda: kind(limit=limit, **stacks)), (LimitExceeded, {'limit': limit}))
            self.assertEqual(kind(limit=1, a=('x',), b=()).names(), ['a'])

    def test_positions(self):
        for kind in (Session, Recorder):
            self.assertIs(raised(lambda: kind(5))[0], TypeError)


class TestSteps(unittest.TestCase):
    def test_push_and_pop(self):
        session = Session(a=('x', 'y'))
        for method in (session.push, session.pop):
            for bad in BAD_NAMES:
                self.assertEqual(raised(lambda: method(bad, 'x')), (InvalidSteps, {'index': 0}))
                self.assertEqual(raised(lambda: method('a', bad)), (InvalidSteps, {'index': 0}))
        self.assertEqual(raised(lambda: session.pop('a', 'y')), (StepFailed, {'index': 0}))
        self.assertEqual(raised(lambda: session.pop('b', 'y')), (StepFailed, {'index': 0}))
        self.assertEqual((len(session), session.stack('a')), (0, ('x', 'y')))
        self.assertIsNone(session.pop('a', 'x'))
        self.assertEqual((len(session), session.stack('a')), (1, ('y',)))

    def test_all_steps_or_none(self):
        session = Session(limit=3, a=('x', 'y'))
        steps = [('pop', 'a', 'x'), ('push', 'b', 'x'), ('pop', 'a', 'y'), ('push', 'a', 'z')]
        for at in range(5):
            wrong = steps[:at] + [('pop', 'c', 'x')] + steps[at:]
            self.assertEqual(raised(lambda: session.perform(wrong)), (StepFailed, {'index': at}))
            self.assertEqual((session.names(), session.stack('a'), len(session)), (['a'], ('x', 'y'), 0))
            wrong = steps[:at] + [('pop', 'c', '')] + steps[at:]
            self.assertEqual(raised(lambda: session.perform(wrong)), (InvalidSteps, {'index': at}))
        self.assertIsNone(session.perform(steps))
        self.assertEqual((session.names(), session.stack('a'), len(session)), (['a', 'b'], ('z',), 1))
        session.undo()
        self.assertEqual((session.names(), session.stack('a'), len(session)), (['a'], ('x', 'y'), 0))

    def test_the_limit_holds_on_the_way(self):
        session = Session(limit=2, a=('x', 'y'))
        self.assertEqual(raised(lambda: session.perform([('push', 'a', 'z'), ('pop', 'a', 'z')])),
                         (StepFailed, {'index': 0}))
        session.perform([('pop', 'a', 'x'), ('push', 'a', 'z'), ('push', 'b', 'z'), ('push', 'b', 'z')])
        self.assertEqual(raised(lambda: session.perform([('pop', 'a', 'z'), ('push', 'b', 'z')])),
                         (StepFailed, {'index': 1}))
        self.assertEqual((session.stack('a'), session.stack('b')), (('z', 'y'), ('z', 'z')))

    def test_invalid_steps_come_first(self):
        for kind in (Session, Recorder):
            session = kind(limit=0)
            for bad in BAD_STEPS:
                for index in range(3):
                    steps = [('pop', 'a', 'x'), ('push', 'a', 'x'), ('pop', 'a', 'x')]
                    steps[index] = bad
                    with self.subTest(shortened(bad), index=index):
                        self.assertEqual(raised(lambda: session.perform(steps)), (InvalidSteps, {'index': index}))
            for value in other_values() + ['', 'ab', [('push', 'a', 'a')] * 1001, {('push', 'a', 'a'): 1}]:
                with self.subTest(shortened(value)):
                    self.assertEqual(raised(lambda: session.perform(value)), (InvalidSteps, {'index': None}))
            self.assertEqual((len(session), session.names()), (0, []))

    def test_no_and_many_steps(self):
        session = Session()
        session.perform([])
        session.perform(())
        self.assertEqual((len(session), session.names()), (2, []))
        session.perform([('push', 'a', 'x')] * 1000)
        session.perform((('push', 'a', 'y'),) * 1000)
        self.assertEqual(session.stack('a'), ('y',) * 1000 + ('x',) * 1000)
        self.assertEqual(session.effect('a'), Effect((), ('y',) * 1000 + ('x',) * 1000))
        self.assertEqual(raised(lambda: session.set_limit(1000)), (LimitExceeded, {'limit': 1000}))
        session.undo()
        session.set_limit(1000)
        self.assertEqual(raised(lambda: session.push('a', 'x')), (StepFailed, {'index': 0}))
        self.assertEqual(len(session), 4)

    def test_names_such_as_limit_and_self(self):
        session = Recorder()
        for name in ('limit', 'self', 'stacks', 'steps', 'name'):
            session.push(name, name)
            self.assertEqual(session.stack(name), (name,))
            self.assertEqual(session.effect(name), Effect((), (name,)))
            session.perform([('push', name, 'x')])
            session.pop(name, 'x')
            self.assertEqual(raised(lambda: session.pop(name, 'x')), (StepFailed, {'index': 0}))
        self.assertEqual(session.names(), ['limit', 'name', 'self', 'stacks', 'steps'])
        self.assertEqual(session.failures(), dict.fromkeys(['limit', 'name', 'self', 'stacks', 'steps'], 1))
        self.assertIsNone(session.limit)

    def test_lists_that_change_later(self):
        steps = [('push', 'a', 'x'), ('push', 'b', 'y')]
        session = Session()
        session.perform(steps)
        copied = session.copy()
        steps[0] = ('push', 'a', 'z')
        steps.append(('push', 'a', 'z'))
        for one in (session, copied):
            self.assertEqual((one.stack('a'), one.effect('a'), one.effect('b')),
                             (('x',), Effect((), ('x',)), Effect((), ('y',))))
            one.undo()
            self.assertEqual(one.names(), [])

    def test_results_are_new(self):
        session = Recorder(a=('x',))
        session.names().append('b')
        self.assertEqual(raised(lambda: session.pop('b', 'x')), (StepFailed, {'index': 0}))
        session.failures()['c'] = 5
        session.failures()['b'] = 5
        self.assertEqual((session.names(), session.failures()), (['a'], {'b': 1}))
        self.assertEqual(session.perform([]), None)
        self.assertIs(session.undo(), None)
        self.assertIs(session.set_limit(3), None)


class TestLimit(unittest.TestCase):
    def test_assigned_and_set(self):
        for kind in (Session, Recorder):
            for way in ('assign', 'set'):
                session = kind(a=('x', 'y'))
                change = (lambda value: setattr(session, 'limit', value)) if way == 'assign' else session.set_limit
                for bad in BAD_LIMITS + [Odd()]:
                    error, attributes = raised(lambda: change(bad))
                    self.assertIs(error, InvalidNumber)
                    self.assertIs(attributes['value'], bad)
                for low in (0, 1):
                    self.assertEqual(raised(lambda: change(low)), (LimitExceeded, {'limit': low}))
                self.assertEqual((session.limit, len(session)), (None, 0))
                change(2)
                change(2)
                change(None)
                change(1000)
                self.assertEqual((session.limit, len(session)), (1000, 4))
                limits = []
                while len(session):
                    session.undo()
                    limits.append(session.limit)
                self.assertEqual(limits, [None, 2, 2, None])

    def test_limits_are_deeds_among_others(self):
        session = Session(limit=1)
        session.push('a', 'x')
        session.limit = 2
        session.push('a', 'y')
        self.assertEqual(raised(lambda: session.set_limit(1)), (LimitExceeded, {'limit': 1}))
        session.undo()
        session.undo()
        self.assertEqual((session.limit, session.stack('a')), (1, ('x',)))
        self.assertEqual(raised(lambda: session.push('a', 'y')), (StepFailed, {'index': 0}))
        session.undo()
        self.assertEqual(raised(session.undo), (NothingToUndo, {'count': 0}))
        self.assertEqual((session.limit, session.names(), len(session)), (1, [], 0))


class TestNames(unittest.TestCase):
    def test_names_that_are_not_items(self):
        for session in (Session(a=('x',)), Recorder(a=('x',))):
            for bad in BAD_NAMES:
                for method in (session.stack, session.effect):
                    error, attributes = raised(lambda: method(bad))
                    self.assertIs(error, InvalidWord)
                    self.assertIs(attributes['value'], bad)

    def test_stacks_that_become_empty(self):
        session = Session(b=('x',), a=('x',))
        self.assertEqual(session.names(), ['a', 'b'])
        session.pop('a', 'x')
        self.assertEqual((session.names(), session.stack('a')), (['b'], ()))
        session.undo()
        self.assertEqual((session.names(), session.stack('a')), (['a', 'b'], ('x',)))


class TestEquality(unittest.TestCase):
    def test_equal_sessions(self):
        one = Session(limit=3, a=('x',), b=())
        other = Session(limit=3)
        self.assertNotEqual(one, other)
        other.push('c', 'y')
        other.perform([('pop', 'c', 'y'), ('push', 'a', 'x')])
        self.assertEqual(one, other)
        self.assertEqual(one, Recorder(limit=3, a=('x',)))
        self.assertEqual(Recorder(limit=3, a=('x',)), one)
        self.assertFalse(one != other)
        other.set_limit(4)
        self.assertNotEqual(one, other)
        other.undo()
        self.assertEqual(one, other)
        other.push('b', 'y')
        self.assertNotEqual(one, other)
        self.assertNotEqual(Session(a=('x',)), Session(b=('x',)))
        self.assertNotEqual(Session(a=('x', 'y')), Session(a=('y', 'x')))
        self.assertNotEqual(Session(limit=0), Session())
        self.assertEqual(Session(), Session())

    def test_counts_make_no_difference(self):
        one, other = Recorder(), Recorder()
        self.assertEqual(raised(lambda: one.pop('a', 'x')), (StepFailed, {'index': 0}))
        self.assertEqual(one, other)

    def test_no_other_value(self):
        for value in other_values() + [[], (), {}, '']:
            if not isinstance(value, Odd):
                self.assertFalse(Session() == value)
                self.assertFalse(Recorder() == value)
                self.assertTrue(Session() != value)


class TestRecorder(unittest.TestCase):
    def test_failures(self):
        session = Recorder(limit=1, b=('x',))
        self.assertEqual(session.failures(), {})
        self.assertEqual(raised(lambda: session.push('b', 'x')), (StepFailed, {'index': 0}))
        self.assertEqual(raised(lambda: session.pop('b', 'y')), (StepFailed, {'index': 0}))
        self.assertEqual(raised(lambda: session.perform([('push', 'a', 'x'), ('pop', 'a', 'y')])),
                         (StepFailed, {'index': 1}))
        self.assertEqual(list(session.failures().items()), [('a', 1), ('b', 2)])
        session.push('c', 'x')
        session.perform([('pop', 'c', 'x'), ('push', 'a', 'x')])
        for steps in (None, [None], [('push', 'a')], [('pop', 'c', 'x'), None]):
            self.assertIs(raised(lambda: session.perform(steps))[0], InvalidSteps)
        self.assertIs(raised(lambda: session.push('A', 'x'))[0], InvalidSteps)
        self.assertIs(raised(lambda: session.set_limit(0))[0], LimitExceeded)
        session.undo()
        session.undo()
        self.assertIs(raised(session.undo)[0], NothingToUndo)
        self.assertEqual(list(session.failures().items()), [('a', 1), ('b', 2)])

    def test_copies_count_on_their_own(self):
        session = Recorder()
        self.assertIs(raised(lambda: session.pop('a', 'x'))[0], StepFailed)
        copied = session.copy()
        self.assertEqual(copied.failures(), {'a': 1})
        self.assertIs(raised(lambda: copied.pop('a', 'x'))[0], StepFailed)
        self.assertIs(raised(lambda: session.pop('b', 'x'))[0], StepFailed)
        self.assertEqual((session.failures(), copied.failures()), ({'a': 1, 'b': 1}, {'a': 2}))

    def test_classes(self):
        self.assertTrue(issubclass(Recorder, Session))
        self.assertIs(Session().copy().__class__, Session)
        self.assertIs(Recorder().copy().copy().__class__, Recorder)
        self.assertFalse(hasattr(Session, 'failures'))
        for name in ['stack', 'names', 'push', 'pop', 'perform', 'limit', 'set_limit', 'undo', '__len__', 'effect', 'copy',
                     '__eq__']:
            self.assertIn(name, vars(Session))
        self.assertIn('failures', vars(Recorder))


class TestCalls(unittest.TestCase):
    def test_by_name_in_another_order(self):
        for kind in (Session, Recorder):
            session = kind(b=('y',), limit=5, a=('x',))
            session.push(item='z', name='a')
            session.pop(item='y', name='b')
            session.perform(steps=[('push', 'c', 'x')])
            session.set_limit(value=3)
            self.assertEqual(session.stack(name='a'), ('z', 'x'))
            self.assertEqual(session.effect(name='b'), Effect(('y',), ()))
            self.assertEqual((session.names(), session.limit, len(session)), (['a', 'c'], 3, 4))


if __name__ == '__main__':
    unittest.main()
