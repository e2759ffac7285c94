"""Point [11]: blocks, reachable stacks, certificates and routes."""

import unittest
from itertools import product
from random import Random
from reprlib import repr as shortened

from stackeffect.effects import Effect
from stackeffect.errors import InvalidBlocks, InvalidNumber, InvalidWord, LimitExceeded
from stackeffect.reach import check, is_reachable, least_blocks, reach, route
from stackeffect.tables import is_table
from tests.helpers import (NOT_TABLES, NOT_WORDS, Odd, after_block, after_blocks, drawn_blocks, drawn_tables, drawn_word,
                           is_certificate, is_read, not_blocks, raised, states_after, words)

EXAMPLE = {'double': Effect(('x',), ('y', 'y')), 'drop': Effect(('y',), ())}
LENGTHS = (0, 0, 1, 1, 1, 2, 2, 3, 4, 6)
BAD_STACKS = NOT_WORDS + [('a',) * 31, ('a', 'b') * 20]
BAD_MOST = [-1, 5001, 10 ** 39, True, False, None, '1', 1.0, [], (), {}, Odd()]
ALL_STACKS = ([(0, 'a', 0), (0, 'b', 0)], [], [0])
FUNCTIONS = [lambda blocks, start, goal: is_reachable(blocks, start, goal),
             lambda blocks, start, goal: least_blocks(blocks, start, goal),
             lambda blocks, start, goal: route(blocks, start, goal)]


def levels(blocks, start, most):
    """The least numbers of blocks of the stacks that a search finds, level by level, while they are at most so many."""
    found, level = {start: 0}, [start]
    while level:
        beyond = {}
        for stack, effect in product(level, blocks.values()):
            after = after_block(effect, stack)
            if after is not None and after not in found:
                beyond[after] = found[level[0]] + 1
        if len(found) + len(beyond) > most:
            break
        found.update(beyond)
        level = list(beyond)
    return found


def drawn_cases(random, many, most_blocks=4):
    """Blocks and starts; every third start is made of the pops of a block, so that it can be used."""
    for case in range(many):
        blocks = drawn_blocks(random, 'ab', LENGTHS, random.randrange(1, most_blocks + 1))
        start = drawn_word(random, 'ab', range(9))
        if case % 3 == 0:
            start = (random.choice(list(blocks.values())).pops or ()) + start[:2]
        yield blocks, start


def renamed(word, names):
    return tuple(names[item] for item in word)


def renamed_blocks(blocks, names):
    return {name: effect if effect.is_never else Effect(renamed(effect.pops, names), renamed(effect.pushes, names))
            for name, effect in blocks.items()}


def renamed_table(table, names):
    edges, skips, ends = table
    return [(state, names[item], target) for state, item, target in edges], skips, ends


def shuffled(random, blocks):
    names = random.sample(list(blocks), len(blocks))
    return {name: blocks[name] for name in names}


def reversed_blocks(blocks):
    return {name: effect.reversal() for name, effect in blocks.items()}


def chain(times):
    """Blocks that each replace one item by several of the next kind, and one that drops the last kind."""
    kinds = 'abcdefgh'
    blocks = {kinds[at]: Effect((kinds[at],), (kinds[at + 1],) * many) for at, many in enumerate(times)}
    blocks['last'] = Effect((kinds[len(times)],), ())
    return blocks


def chain_number(times):
    """How many blocks it takes to drop the first item of a chain."""
    return 1 if not times else 1 + times[0] * chain_number(times[1:])


def counter(digits, base):
    """Blocks that add one to a number, whose lowest digit is on top."""
    kinds = 'abcdefgh'[:base]
    return {f'add{"abcdefgh"[carried]}{kinds[digit]}': Effect((kinds[-1],) * carried + (kinds[digit],),
                                                              (kinds[0],) * carried + (kinds[digit + 1],))
            for carried in range(digits) for digit in range(base - 1)}


def digits_of(number, digits, base):
    found = []
    for at in range(digits):
        number, digit = divmod(number, base)
        found.append('abcdefgh'[digit])
    return tuple(found)


class TestExamples(unittest.TestCase):
    def test_examples(self):
        self.assertEqual(least_blocks(EXAMPLE, ('x',), ()), 3)
        self.assertEqual(route(EXAMPLE, ('x',), ()), ['double', 'drop', 'drop'])
        self.assertIs(is_reachable(EXAMPLE, ('x',), ('x', 'x')), False)


class TestAgainstASearch(unittest.TestCase):
    def check_goal(self, blocks, start, goal, table, found):
        names = route(blocks, start, goal)
        least = least_blocks(blocks, start, goal)
        if not is_read(table, goal):
            self.assertNotIn(goal, found)
            self.assertIsNone(names)
            self.assertIsNone(least)
            self.assertIs(is_reachable(blocks, start, goal), False)
            return
        self.assertIs(is_reachable(blocks, start, goal), True)
        self.assertIsInstance(least, int)
        self.assertEqual(len(names), least)
        self.assertEqual(after_blocks(blocks, names, start), goal)
        self.assertFalse([name for name in names if blocks[name].is_never])
        if goal in found:
            self.assertEqual(least, found[goal])
        else:
            self.assertGreater(least, max(found.values()))

    def check(self, blocks, start, most, some):
        table = reach(blocks, start)
        self.assertIs(is_table(table), True)
        self.assertTrue(is_certificate(blocks, start, table))
        self.assertIs(check(blocks, start, table), True)
        found = levels(blocks, start, most)
        for stack in found:
            self.assertTrue(is_read(table, stack))
        for goal in [*words('ab', 3), *[stack for stack in found if len(stack) <= 30][-some:]]:
            self.check_goal(blocks, start, goal, table, found)

    def test_drawn_blocks(self):
        for blocks, start in drawn_cases(Random(1), 400):
            with self.subTest(blocks=blocks, start=start):
                self.check(blocks, start, 100, 5)

    def test_deeper(self):
        for blocks, start in drawn_cases(Random(2), 15):
            with self.subTest(blocks=blocks, start=start):
                self.check(blocks, start, 500, 40)

    def test_short_words(self):
        # All pairs of blocks with at most one item in pops and pushes, which leads into state 0 and to skips.
        effects = [Effect.never()] + [Effect(pops, pushes) for pops, pushes in product(words('ab', 1), repeat=2)]
        for one, other in product(effects, repeat=2):
            for start in [(), ('a',), ('b', 'a')]:
                with self.subTest(one=one, other=other, start=start):
                    blocks = {'one': one, 'other': other}
                    table = reach(blocks, start)
                    self.assertTrue(is_certificate(blocks, start, table))
                    found = levels(blocks, start, 60)
                    for goal in words('ab', 2):
                        self.check_goal(blocks, start, goal, table, found)

    def test_blocks_that_are_never(self):
        never = {'a': Effect.never(), 'b': Effect.never()}
        for start in words('ab', 2):
            table = reach(never, start)
            self.assertEqual([stack for stack in words('ab', 3) if is_read(table, stack)], [start])
            self.assertEqual(least_blocks(never, start, start), 0)
            self.assertEqual(route(never, start, start), [])
            self.assertIsNone(least_blocks(never, start, start + ('a',)))
            self.assertIsNone(route(never, start, start + ('a',)))
        blocks = {'a': Effect.never(), 'b': Effect(('a',), ('b',)), 'c': Effect.never()}
        self.assertEqual(route(blocks, ('a', 'b'), ('b', 'b')), ['b'])
        self.assertIs(is_reachable(blocks, ('b', 'b'), ('a', 'b')), False)

    def test_the_start_is_reached_without_blocks(self):
        for blocks, start in drawn_cases(Random(3), 60):
            self.assertEqual(least_blocks(blocks, start, start), 0)
            self.assertEqual(route(blocks, start, start, most=0), [])

    def test_peaks_make_no_difference(self):
        high = {name: Effect(effect.pops, effect.pushes, peak=2000) for name, effect in EXAMPLE.items()}
        for goal in words('xy', 3):
            self.assertEqual(least_blocks(high, ('x', 'x'), goal), least_blocks(EXAMPLE, ('x', 'x'), goal))
        self.assertEqual(reach(high, ('x', 'x')), reach(EXAMPLE, ('x', 'x')))

    def test_the_largest_blocks_and_stacks(self):
        random = Random(4)
        for items, lengths in product(['a', 'ab', ['abcdefgh', 'b', 'c']], [(0, 1, 8), (7, 8), (8,), (0, 1, 2)]):
            blocks = {name: Effect(drawn_word(random, items, lengths), drawn_word(random, items, lengths))
                      for name in 'abcdefgh'}
            start, goal = (drawn_word(random, items, (30,)) for stack in range(2))
            table = reach(blocks, start)
            self.assertIs(is_table(table), True)
            self.assertTrue(is_certificate(blocks, start, table))
            least = least_blocks(blocks, start, goal)
            self.assertIs(least is not None, is_read(table, goal))
            if least is not None and least <= 5000:
                names = route(blocks, start, goal, most=5000)
                self.assertEqual(len(names), least)
                self.assertEqual(after_blocks(blocks, names, start), goal)


class TestCheck(unittest.TestCase):
    def compare(self, blocks, start, table):
        self.assertIs(check(blocks, start, table), is_certificate(blocks, start, table), (blocks, start, table))

    def variants(self, random, table):
        """The table with a part added or removed, each in turn or drawn."""
        states = sorted({0, *table[1], *table[2], *(edge[0] for edge in table[0]), *(edge[2] for edge in table[0])})
        new = random.choice(states + [999])
        added = [(random.choice(states), random.choice('ab'), new), new, new]
        for part in range(3):
            lists = [list(values) for values in table]
            lists[part].append(added[part])
            yield tuple(lists)
            for at in range(len(table[part])):
                lists = [list(values) for values in table]
                del lists[part][at]
                yield tuple(lists)

    def test_returned_tables_and_their_variants(self):
        random, seen = Random(5), set()
        for blocks, start in drawn_cases(random, 120):
            table = reach(blocks, start)
            for other in [table, ALL_STACKS, *self.variants(random, table)]:
                self.compare(blocks, start, other)
                seen.add(check(blocks, start, other))
        self.assertEqual(seen, {True, False})

    def test_drawn_tables(self):
        random, seen = Random(6), set()
        for table in drawn_tables(random, 1500):
            blocks = drawn_blocks(random, 'ab', (0, 1, 1, 2), random.randrange(1, 4))
            start = drawn_word(random, 'ab', (0, 1, 2))
            self.compare(blocks, start, table)
            seen.add((check(blocks, start, table), is_read(table, start)))
        self.assertEqual(seen, {(True, True), (False, True), (False, False)})

    def test_a_table_of_another_author(self):
        # More stacks than are reachable, but not all: those with an even number of y.
        even = ([(0, 'x', 0), (0, 'y', 1), (1, 'y', 0), (1, 'x', 1)], [], [0])
        self.assertIs(check({'double': Effect(('x',), ('y', 'y'))}, ('x',), even), True)
        self.assertIs(check(EXAMPLE, ('x',), even), False)
        self.assertIs(check({'double': Effect(('x',), ('y', 'y'))}, ('y',), even), False)

    def test_skips_after_the_last_item(self):
        table = ([(0, 'a', 0), (1, 'b', 2)], [1], [2])
        # Reading a leads to 0 and, by the skip after it, to 1.
        self.assertIs(check({'x': Effect(('a',), ())}, ('b',), table), True)
        self.assertIs(check({'x': Effect((), ('a',))}, ('b',), table), True)
        self.assertIs(check({'x': Effect(('a',), ('b',))}, ('b',), table), False)
        self.assertIs(check({'x': Effect(('a',), ('b',)), 'y': Effect(('a',), ())}, ('b',), table), False)
        self.assertIs(check({'x': Effect((), ('b',))}, ('b',), ([(0, 'b', 1)], [1], [1])), False)
        self.assertIs(check({'x': Effect((), ('b',))}, ('b',), ([(0, 'b', 0)], [1], [1])), True)

    def test_a_block_that_is_never(self):
        table = ([(0, 'a', 1)], [], [1])
        self.assertIs(check({'x': Effect.never()}, ('a',), table), True)
        self.assertIs(check({'x': Effect.never()}, ('b',), table), False)
        self.assertIs(check({'x': Effect.never(), 'y': Effect(('a',), ())}, ('a',), table), False)

    def test_values_that_are_not_tables(self):
        for value in NOT_TABLES:
            with self.subTest(shortened(value)):
                self.assertIs(check(EXAMPLE, ('x',), value), False)
                self.assertIs(check({'x': Effect.never()}, (), value), False)
        edges, skips, ends = reach(EXAMPLE, ('x',))
        for value in [[edges, skips, ends], (tuple(edges), skips, ends), (edges, tuple(skips), ends),
                      (edges, skips, tuple(ends)), (edges, skips), (edges, skips, ends, []), (edges, skips, [True]),
                      (edges + [(1, 'y', 1000)], skips, ends), (edges * 2000, skips, ends), (edges, skips, [*ends, -1])]:
            self.assertIs(check(EXAMPLE, ('x',), value), False)


class TestLeastNumbers(unittest.TestCase):
    def test_chains(self):
        for many in range(2, 9):
            for length in range(8):
                times = (many,) * length
                expected = chain_number(times)
                self.assertEqual(least_blocks(chain(times), ('a',), ()), expected)
                self.assertEqual(least_blocks(reversed_blocks(chain(times)), (), ('a',)), expected)
                self.assertEqual(least_blocks(chain(times), ('a',) * 30, ('a',)), 29 * expected)
                self.assertEqual(least_blocks(chain(times), ('a',) * 30, ()), 30 * expected)

    def test_mixed_chains(self):
        random = Random(7)
        for case in range(40):
            times = tuple(random.randrange(2, 9) for at in range(7))
            self.assertEqual(least_blocks(chain(times), ('a', 'a'), ('h', 'a')), chain_number(times) - 1)
            self.assertEqual(least_blocks(chain(times), ('a', 'a'), ('a',)), chain_number(times))

    def test_chains_that_wind_up_a_power_of_a_power(self):
        # Each kind takes eight of the next before it goes, and the last kinds are there to be counted again.
        blocks = {'a': Effect(('a',), ('b',) * 8), 'b': Effect(('b',), ('c',) * 8), 'c': Effect(('c',), ('d',) * 8),
                  'd': Effect(('d',), ('e',) * 8), 'e': Effect(('e',), ('f',) * 8), 'f': Effect(('f',), ('g',) * 8),
                  'g': Effect(('g',), ('h',) * 8), 'h': Effect(('h',), ())}
        number = (8 ** 8 - 1) // 7
        self.assertEqual(least_blocks(blocks, ('a',), ()), number)
        self.assertEqual(least_blocks(blocks, ('a',) * 15, ()), 15 * number)

    def test_counters(self):
        for digits, base in [(1, 2), (2, 2), (5, 2), (8, 2), (1, 8), (2, 5), (2, 4), (4, 3)]:
            blocks = counter(digits, base)
            last = base ** digits - 1
            for number in {0, 1, last // 2, last}:
                goal = digits_of(number, digits, base)
                self.assertEqual(least_blocks(blocks, ('a',) * digits, goal), number)
                self.assertEqual(least_blocks(blocks, goal, digits_of(last, digits, base)), last - number)
                names = route(blocks, ('a',) * digits, goal)
                self.assertEqual(len(names), number)
                self.assertEqual(after_blocks(blocks, names, ('a',) * digits), goal)
                if number:
                    self.assertIsNone(least_blocks(blocks, goal, ('a',) * digits))

    def test_a_counter_with_a_way_round(self):
        blocks = {**counter(6, 2), 'jump': Effect(('b', 'b', 'a', 'a', 'a'), ('b', 'b', 'b', 'b', 'b'))}
        self.assertEqual(least_blocks(blocks, ('a',) * 6, ('b',) * 5 + ('a',)), 4)
        self.assertEqual(least_blocks(blocks, ('a',) * 6, ('b',) * 6), 9)
        self.assertEqual(least_blocks(blocks, ('a',) * 6, ('a', 'a', 'b', 'a', 'a', 'a')), 4)

    def test_the_cheapest_of_several_ways(self):
        blocks = {'slow': Effect(('a',), ('b', 'b', 'b')), 'quick': Effect(('a',), ('c',)),
                  'drop': Effect(('b',), ()), 'turn': Effect(('c',), ('b',))}
        self.assertEqual(least_blocks(blocks, ('a',), ()), 3)
        self.assertEqual(route(blocks, ('a',), ()), ['quick', 'turn', 'drop'])
        self.assertEqual(route(blocks, ('a',), ('b', 'b')), ['slow', 'drop'])
        # The same edge is made by two blocks, first by the one that comes later in the alphabet.
        blocks = {'a': Effect(('x', 'x', 'x'), ('y',)), 'z': Effect(('x',), ('y',)), 'p': Effect((), ('x',))}
        self.assertEqual(route(blocks, ('x',), ('y',)), ['z'])
        self.assertEqual(least_blocks(blocks, (), ('y',)), 2)

    def test_most(self):
        blocks = chain((8, 8, 8))
        for start, least in [((), 0), (('d',), 1), (('c',), 9), (('b',), 73), (('a',), 585), (('a',) * 8, 4680)]:
            for most in {0, 1, least - 1, least, least + 1, 1000, 4679, 4680, 5000} - {-1}:
                if least > most:
                    self.assertEqual(raised(lambda: route(blocks, start, (), most=most)),
                                     (LimitExceeded, {'limit': most}))
                else:
                    names = route(blocks, start, (), most=most)
                    self.assertEqual(len(names), least)
                    self.assertEqual(after_blocks(blocks, names, start), ())
        self.assertEqual(raised(lambda: route(blocks, ('a', 'a'), ())), (LimitExceeded, {'limit': 1000}))
        self.assertEqual(raised(lambda: route(chain((8,) * 7), ('a',) * 30, (), most=5000)),
                         (LimitExceeded, {'limit': 5000}))
        self.assertIsNone(route(blocks, ('a',), ('a', 'a'), most=0))
        self.assertEqual(len(route(blocks, ('a', 'd'), ('c', 'd'), most=1000)), 1 + 7 * 73 + 1 + 7 * 9)

    def test_the_default_of_most(self):
        blocks = {'up': Effect((), ('a',) * 8), 'down': Effect(('a', 'a'), ('a',))}
        counting = {'add': Effect((), ('a',)), 'take': Effect(('a',), ())}
        self.assertEqual(len(route(counting, (), ('a',) * 30)), 30)
        self.assertEqual(after_blocks(blocks, route(blocks, (), ('a',) * 30), ()), ('a',) * 30)
        self.assertEqual(least_blocks(chain((8, 8, 8)), ('a', 'b', 'b', 'b', 'b', 'b', 'c', 'c', 'c', 'c', 'c'), ()), 995)
        self.assertEqual(len(route(chain((8, 8, 8)), ('a',) + ('b',) * 5 + ('c',) * 5 + ('d',) * 5, ())), 1000)
        error = raised(lambda: route(chain((8, 8, 8)), ('a',) + ('b',) * 5 + ('c',) * 5 + ('d',) * 6, ()))
        self.assertEqual(error, (LimitExceeded, {'limit': 1000}))


class TestInvariance(unittest.TestCase):
    def cases(self, random, many):
        for blocks, start in drawn_cases(random, many):
            found = [stack for stack in levels(blocks, start, 60) if len(stack) <= 20]
            yield blocks, start, random.choice(found)
            yield blocks, start, found[-1]
            yield blocks, start, drawn_word(random, 'ab', range(5))

    def test_reversed_blocks(self):
        for blocks, start, goal in self.cases(Random(8), 120):
            self.assertEqual(least_blocks(reversed_blocks(blocks), goal, start), least_blocks(blocks, start, goal))

    def test_renamed_items(self):
        for blocks, start, goal in self.cases(Random(9), 80):
            least, table, names = least_blocks(blocks, start, goal), reach(blocks, start), route(blocks, start, goal)
            for new in [{'a': 'b', 'b': 'a'}, {'a': 'aa', 'b': 'zzzzzzzz'}, {'a': 'c', 'b': 'bb'}]:
                other = renamed_blocks(blocks, new)
                self.assertEqual(least_blocks(other, renamed(start, new), renamed(goal, new)), least)
                if new['a'] < new['b']:
                    self.assertEqual(reach(other, renamed(start, new)), renamed_table(table, new))
                    self.assertEqual(route(other, renamed(start, new), renamed(goal, new)), names)

    def test_another_order_of_the_dict(self):
        random = Random(10)
        for blocks, start, goal in self.cases(random, 80):
            for other in [shuffled(random, blocks), dict(sorted(blocks.items())), dict(sorted(blocks.items())[::-1])]:
                self.assertEqual(least_blocks(other, start, goal), least_blocks(blocks, start, goal))
                self.assertEqual(reach(other, start), reach(blocks, start))
                self.assertEqual(route(other, start, goal), route(blocks, start, goal))

    def test_other_names(self):
        random = Random(11)
        for blocks, start, goal in self.cases(random, 80):
            other = dict(zip(random.sample('abcdefgh', len(blocks)), blocks.values()))
            self.assertEqual(least_blocks(other, start, goal), least_blocks(blocks, start, goal))

    def test_along_a_route(self):
        for blocks, start, goal in self.cases(Random(12), 60):
            names = route(blocks, start, goal)
            stack = start
            for at, name in enumerate(names or []):
                stack = after_block(blocks[name], stack)
                if len(stack) <= 30:
                    self.assertEqual(least_blocks(blocks, stack, goal), len(names) - at - 1)

    def test_more_items_below(self):
        random = Random(13)
        for blocks, start, goal in self.cases(random, 80):
            least = least_blocks(blocks, start, goal)
            for below in [('c',), drawn_word(random, 'ab', (1, 2, 3))]:
                if least is not None:
                    self.assertLessEqual(least_blocks(blocks, start + below, goal + below), least)
        blocks = {'x': Effect(('a', 'c'), ('b', 'c')), 'y': Effect(('a',), ('d',)), 'z': Effect(('d',), ('b',))}
        self.assertEqual([least_blocks(blocks, ('a', *below), ('b', *below)) for below in ['', 'a', 'c', 'cc']],
                         [2, 2, 1, 1])
        self.assertEqual([least_blocks({'x': blocks['x']}, ('a', *below), ('b', *below)) for below in ['', 'a', 'c']],
                         [None, None, 1])

    def test_more_blocks(self):
        random, fewer = Random(14), 0
        for blocks, start, goal in self.cases(random, 120):
            least = least_blocks(blocks, start, goal)
            for block in [Effect.never(), Effect(drawn_word(random, 'ab', (0, 1, 2)), drawn_word(random, 'ab', (0, 1)))]:
                other = least_blocks({**blocks, 'more': block}, start, goal)
                if least is not None:
                    self.assertLessEqual(other, least)
                fewer += other != least
        self.assertGreater(fewer, 0)


class TestErrors(unittest.TestCase):
    def check_error(self, call, error, attribute, value):
        found, attributes = raised(call)
        self.assertIs(found, error)
        self.assertEqual(list(attributes), [attribute])
        self.assertIs(attributes[attribute], value)

    def test_invalid_blocks_come_first(self):
        for blocks in not_blocks():
            with self.subTest(shortened(blocks)):
                self.check_error(lambda: reach(blocks, None), InvalidBlocks, 'value', blocks)
                self.check_error(lambda: reach(blocks, ()), InvalidBlocks, 'value', blocks)
                self.check_error(lambda: check(blocks, (), ALL_STACKS), InvalidBlocks, 'value', blocks)
                self.check_error(lambda: check(blocks, None, None), InvalidBlocks, 'value', blocks)
                for function in FUNCTIONS:
                    self.check_error(lambda: function(blocks, (), ()), InvalidBlocks, 'value', blocks)
                    self.check_error(lambda: function(blocks, None, None), InvalidBlocks, 'value', blocks)
                self.check_error(lambda: route(blocks, None, None, most=-1), InvalidBlocks, 'value', blocks)

    def test_then_the_start_and_then_the_goal(self):
        for stack in BAD_STACKS:
            with self.subTest(shortened(stack)):
                self.check_error(lambda: reach(EXAMPLE, stack), InvalidWord, 'value', stack)
                self.check_error(lambda: check(EXAMPLE, stack, None), InvalidWord, 'value', stack)
                self.check_error(lambda: check(EXAMPLE, stack, ALL_STACKS), InvalidWord, 'value', stack)
                for function in FUNCTIONS:
                    self.check_error(lambda: function(EXAMPLE, stack, ()), InvalidWord, 'value', stack)
                    self.check_error(lambda: function(EXAMPLE, stack, ['x']), InvalidWord, 'value', stack)
                    self.check_error(lambda: function(EXAMPLE, (), stack), InvalidWord, 'value', stack)
                self.check_error(lambda: route(EXAMPLE, stack, (), most=-1), InvalidWord, 'value', stack)
                self.check_error(lambda: route(EXAMPLE, (), stack, most=-1), InvalidWord, 'value', stack)

    def test_then_most(self):
        for most in BAD_MOST:
            with self.subTest(shortened(most)):
                self.check_error(lambda: route(EXAMPLE, ('x',), (), most=most), InvalidNumber, 'value', most)
                self.check_error(lambda: route(EXAMPLE, (), ('x',), most=most), InvalidNumber, 'value', most)

    def test_most_is_a_keyword(self):
        self.assertIs(raised(lambda: route(EXAMPLE, ('x',), (), 5))[0], TypeError)

    def test_values_at_the_bounds(self):
        for many in (1, 8):
            blocks = {name: Effect(('a',) * 8, ('b',) * 8) for name in 'abcdefgh'[:many]}
            self.assertEqual(least_blocks(blocks, ('a',) * 30, ('b',) * 8 + ('a',) * 22), 1)
            self.assertEqual(route(blocks, ('a',) * 30, ('b',) * 8 + ('a',) * 22, most=5000), ['a'])
            self.assertEqual(route(blocks, ('a',) * 30, ('a',) * 30, most=0), [])
            self.assertIs(is_reachable(blocks, ('a',) * 30, ('b',) * 30), False)
            table = reach(blocks, ('a',) * 30)
            self.assertIs(check(blocks, ('a',) * 30, table), True)
            self.assertEqual([stack for stack in [('a',) * 30, ('b',) * 8 + ('a',) * 22, ('b',) * 30, ()]
                              if is_read(table, stack)], [('a',) * 30, ('b',) * 8 + ('a',) * 22])
        names = {'abcdefgh': Effect(('a',), ()), 'z': Effect.never()}
        self.assertEqual(route(names, ('a', 'a'), ()), ['abcdefgh', 'abcdefgh'])


class TestCalls(unittest.TestCase):
    def test_by_name_in_another_order(self):
        table = reach(start=('x',), blocks=EXAMPLE)
        self.assertEqual(table, reach(EXAMPLE, ('x',)))
        self.assertIs(check(table=table, start=('x',), blocks=EXAMPLE), True)
        self.assertIs(is_reachable(goal=(), start=('x',), blocks=EXAMPLE), True)
        self.assertEqual(least_blocks(goal=('y',), blocks=EXAMPLE, start=('x',)), 2)
        self.assertEqual(route(most=2, goal=('y',), start=('x',), blocks=EXAMPLE), ['double', 'drop'])

    def test_arguments_do_not_change_and_results_are_new(self):
        for blocks, start in drawn_cases(Random(15), 30):
            kept = list(blocks.items())
            tables = [reach(blocks, start) for time in range(2)]
            before = repr(tables[0])
            self.assertIs(check(blocks, start, tables[0]), True)
            self.assertEqual([repr(table) for table in tables], [before] * 2)
            for values in tables[0]:
                values.append('x')
            names = route(blocks, start, start)
            names.append('x')
            self.assertEqual([repr(tables[1]), repr(reach(blocks, start))], [before] * 2)
            self.assertEqual(route(blocks, start, start), [])
            self.assertEqual(list(blocks.items()), kept)

    def test_kinds_of_the_results(self):
        edges, skips, ends = reach(EXAMPLE, ('x', 'y'))
        self.assertEqual([values.__class__ for values in (edges, skips, ends)], [list] * 3)
        self.assertEqual({edge.__class__ for edge in edges}, {tuple})
        self.assertEqual(sorted(set(edges)), sorted(edges))
        self.assertIn(0, states_after((edges, skips, ends), ()))
        self.assertIs(route(EXAMPLE, ('x',), ()).__class__, list)


if __name__ == '__main__':
    unittest.main()
