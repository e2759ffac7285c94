"""Point [15]: observations of candidates."""

import unittest
from random import Random
from reprlib import repr as shortened

from stackeffect.effects import Effect, effect_of
from stackeffect.errors import InvalidCandidates, InvalidObservation, InvalidWord
from stackeffect.observed import best_stack, outcomes, possible
from tests.helpers import NOT_WORDS, Odd, after_block, drawn_word, other_values, raised, small_effects, words

EXAMPLE = [effect_of([('pop', 'a')]), effect_of([('push', 'a')]), effect_of([('pop', 'a'), ('pop', 'a')])]
NOTHING = Effect.nothing()
NOT_CANDIDATES = other_values() + [
    [], (), (NOTHING,), [NOTHING] * 21, {NOTHING.__class__: NOTHING}, {0: NOTHING}, '', 'a', [None], [NOTHING, None],
    [None, NOTHING], [NOTHING, Odd()], [(('a',), ('b',))], [[NOTHING]], [('push', 'a')], [Effect], iter([NOTHING])]
BAD_OBSERVATIONS = [None, (), ((),), ((), (), ()), [(), ()], 'ab', '', {(): ()}, 5, True, Odd(), (None, ()), ((), 5),
                    ((), False), ((), 'a'), ('a', ()), ((), ['a']), (['a'], ()), (('A',), None), (('a',), ('',)),
                    (('a', 1), ()), ((), (Odd(),)), (Odd(), ()), ((), Odd())]


def drawn_candidates(random, many, items='ab'):
    """So many candidates, some of them never or equal to others."""
    found = []
    for at in range(many):
        kind = random.random()
        if kind < 0.05:
            found.append(Effect.never())
        elif kind < 0.2 and found:
            found.append(random.choice(found))
        else:
            pops, pushes = drawn_word(random, items, (0, 1, 1, 2, 3)), drawn_word(random, items, (0, 1, 1, 2, 3))
            found.append(Effect(pops, pushes, peak=random.choice((None, 9))))
    return found


def by_results(candidates, stack):
    """What outcomes has to return."""
    results = [after_block(effect, stack) for effect in candidates]
    order = sorted(set(results), key=lambda result: (-1, ()) if result is None else (len(result), result))
    return [(result, [index for index, other in enumerate(results) if other == result]) for result in order]


def largest(candidates, stack):
    return max(len(indexes) for result, indexes in by_results(candidates, stack))


class TestExamples(unittest.TestCase):
    def test_examples(self):
        self.assertEqual(possible(EXAMPLE, [(('a',), ())]), [0])
        self.assertEqual(outcomes(EXAMPLE, ('a',)), [(None, [2]), ((), [0]), (('a', 'a'), [1])])
        self.assertEqual(best_stack(EXAMPLE), (1, ('a',)))


class TestPossible(unittest.TestCase):
    def test_against_own_results(self):
        random, seen = Random(1), set()
        for case in range(600):
            candidates = drawn_candidates(random, random.randrange(1, 21))
            hidden = random.randrange(len(candidates))
            observations = []
            for at in range(random.randrange(4)):
                stack = drawn_word(random, 'ab', range(5))
                observations.append((stack, after_block(candidates[hidden], stack)))
            changed = bool(observations) and case % 4 == 0
            if changed:
                at = random.randrange(len(observations))
                observations[at] = (observations[at][0], random.choice([None, (), ('a',), ('b', 'a'), ('c',)]))
            expected = [index for index, effect in enumerate(candidates)
                        if all(after_block(effect, stack) == result for stack, result in observations)]
            self.assertEqual(possible(candidates, observations), expected)
            self.assertTrue(changed or hidden in expected)
            seen.add((changed, hidden in expected, len(expected) == len(candidates)))
        self.assertEqual(len(seen), 5)

    def test_no_observations(self):
        for many in (1, 2, 20):
            self.assertEqual(possible([NOTHING] * many, []), list(range(many)))

    def test_failures(self):
        candidates = [Effect.never(), Effect(('a',), ()), Effect((), ('a',))]
        self.assertEqual(possible(candidates, [((), None)]), [0, 1])
        self.assertEqual(possible(candidates, [((), None), (('a',), None)]), [0])
        self.assertEqual(possible(candidates, [((), ('a',))]), [2])
        self.assertEqual(possible(candidates, [((), ())]), [])

    def test_many_observations(self):
        stacks = words('abc', 4)
        for effect in small_effects('ab', 2, 0):
            observations = [(stack, after_block(effect, stack)) for stack in stacks]
            self.assertEqual(possible([effect, Effect(('c',), ())], observations), [0])


class TestOutcomes(unittest.TestCase):
    def test_against_own_results(self):
        random = Random(2)
        for case in range(600):
            candidates = drawn_candidates(random, random.randrange(1, 21))
            stack = drawn_word(random, 'ab', range(6))
            found = outcomes(candidates, stack)
            self.assertEqual(found, by_results(candidates, stack))
            self.assertEqual({(pair.__class__, pair[1].__class__) for pair in found}, {(tuple, list)})

    def test_the_order(self):
        results = [('b',), (), ('a', 'b'), ('b', 'a'), ('aa',), ('a',), ('a', 'a', 'a'), ('a', 'ab')]
        candidates = [Effect((), result) for result in results] + [Effect(('x',), ()), Effect((), ('a',)), Effect.never()]
        self.assertEqual(outcomes(candidates, ()), [
            (None, [8, 10]), ((), [1]), (('a',), [5, 9]), (('aa',), [4]), (('b',), [0]), (('a', 'ab'), [7]),
            (('a', 'b'), [2]), (('b', 'a'), [3]), (('a', 'a', 'a'), [6])])

    def test_one_and_twenty_candidates(self):
        self.assertEqual(outcomes([Effect.never()], ()), [(None, [0])])
        self.assertEqual(outcomes([NOTHING] * 20, ('a',)), [(('a',), list(range(20)))])


class TestBestStack(unittest.TestCase):
    def expected(self, candidates, stacks):
        found = [(largest(candidates, stack), at) for at, stack in enumerate(stacks)]
        many, at = min(found)
        return many, stacks[at]

    def test_against_all_stacks(self):
        random, stacks = Random(3), words('abc', 5)
        for case in range(60):
            candidates = drawn_candidates(random, random.choice((1, 2, 2, 3, 4, 6, 9, 20)))
            self.assertEqual(best_stack(candidates), self.expected(candidates, stacks))

    def test_where_the_first_item_is_not_used(self):
        random, stacks = Random(4), words(['a', 'b', 'bb'], 5)
        for case in range(40):
            candidates = drawn_candidates(random, random.choice((2, 3, 5)), ['b', 'bb'])
            self.assertEqual(best_stack(candidates), self.expected(candidates, stacks))

    def test_all_small_pairs(self):
        stacks = words('ab', 3)
        effects = small_effects('a', 2, 0) + [Effect(('b',), ()), Effect((), ('b',))]
        for one in effects:
            for other in effects:
                self.assertEqual(best_stack([one, other]), self.expected([one, other], stacks))

    def test_never_and_nothing(self):
        self.assertEqual(best_stack([Effect.never()]), (1, ()))
        self.assertEqual(best_stack([Effect.never()] * 20), (20, ()))
        self.assertEqual(best_stack([Effect(('a',), ('a',)), Effect.never()]), (1, ('a',)))
        self.assertEqual(best_stack([NOTHING, Effect(('a',), ('a',)), Effect(('b',), ('b',))]), (2, ()))
        self.assertEqual(best_stack([Effect(('b',), ()), Effect(('a',), ())]), (1, ('a',)))
        self.assertEqual(best_stack([Effect((), (), peak=5), NOTHING]), (2, ()))

    def test_long_words_with_equal_beginnings(self):
        long = ('a',) * 5000
        candidates = [Effect(long[:4990 + at] + ('b',), ('a',) * at) for at in range(10)]
        candidates += [Effect(long[:4990 + at], ()) for at in range(10)]
        self.assertEqual(best_stack(candidates), (9, long[:4999] + ('b',)))
        self.assertEqual(best_stack(candidates[:9] + candidates[10:]), (9, long[:4999]))
        # Each longer one is separated only by the last item.
        ends = [Effect(long[:4999] + (item,), ()) for item in 'dcb']
        self.assertEqual(best_stack(ends), (2, long[:4999] + ('b',)))
        same = [Effect(long[:many], long[:many]) for many in (3, 4000, 2000)] + [Effect(long[:3000], ())]
        self.assertEqual(best_stack(same), (2, long[:2000]))

    def test_the_best_stacks_in_turn(self):
        random = Random(5)
        for case in range(200):
            candidates = drawn_candidates(random, random.randrange(1, 21))
            hidden = random.randrange(len(candidates))
            left = list(range(len(candidates)))
            while True:
                many, stack = best_stack([candidates[index] for index in left])
                if many == len(left):
                    break
                observation = (stack, after_block(candidates[hidden], stack))
                left = [left[at] for at in possible([candidates[index] for index in left], [observation])]
                self.assertIn(hidden, left)
                self.assertLessEqual(len(left), many)
            same = [index for index, effect in enumerate(candidates)
                    if (effect.pops, effect.pushes) == (candidates[hidden].pops, candidates[hidden].pushes)]
            self.assertEqual(left, same)


class TestErrors(unittest.TestCase):
    def test_candidates_come_first(self):
        for value in NOT_CANDIDATES:
            for call in [lambda: possible(value, []), lambda: possible(value, None), lambda: outcomes(value, ()),
                         lambda: outcomes(value, None), lambda: best_stack(value)]:
                with self.subTest(shortened(value)):
                    error, attributes = raised(call)
                    self.assertIs(error, InvalidCandidates)
                    self.assertIs(attributes['value'], value)

    def test_observations(self):
        for bad in BAD_OBSERVATIONS:
            for index in range(3):
                observations = [((), ()), (('a',), None), (('b',), ('b',))]
                observations[index] = bad
                with self.subTest(shortened(bad), index=index):
                    error = (InvalidObservation, {'index': index})
                    self.assertEqual(raised(lambda: possible(EXAMPLE, observations)), error)
                    self.assertEqual(raised(lambda: possible(EXAMPLE, observations + [None])), error)
        for value in other_values() + [(), (((), ()),), '', {(): ()}, {((), ())}]:
            with self.subTest(shortened(value)):
                self.assertEqual(raised(lambda: possible(EXAMPLE, value)), (InvalidObservation, {'index': None}))

    def test_stacks(self):
        for value in NOT_WORDS:
            with self.subTest(shortened(value)):
                error, attributes = raised(lambda: outcomes(EXAMPLE, value))
                self.assertIs(error, InvalidWord)
                self.assertIs(attributes['value'], value)

    def test_lists_at_the_bounds(self):
        for many in (1, 20):
            candidates = [Effect(('a',), ())] * many
            self.assertEqual(possible(candidates, [(('a',), ())]), list(range(many)))
            self.assertEqual(outcomes(candidates, ()), [(None, list(range(many)))])
            self.assertEqual(best_stack(candidates), (many, ()))


class TestCalls(unittest.TestCase):
    def test_by_name_in_another_order(self):
        self.assertEqual(possible(observations=[(('a',), ())], candidates=EXAMPLE), [0])
        self.assertEqual(outcomes(stack=(), candidates=EXAMPLE), [(None, [0, 2]), (('a',), [1])])
        self.assertEqual(best_stack(candidates=EXAMPLE), (1, ('a',)))

    def test_arguments_do_not_change_and_results_are_new(self):
        candidates, observations = list(EXAMPLE), [(('a',), ())]
        possible(candidates, observations).append(9)
        for result, indexes in outcomes(candidates, ('a',)):
            indexes.append(9)
        outcomes(candidates, ('a',)).append(9)
        best_stack(candidates)
        self.assertEqual((candidates, observations), (EXAMPLE, [(('a',), ())]))
        self.assertEqual(possible(candidates, observations), [0])
        self.assertEqual(outcomes(candidates, ('a',)), [(None, [2]), ((), [0]), (('a', 'a'), [1])])


if __name__ == '__main__':
    unittest.main()
