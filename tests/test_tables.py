"""Point [10]: tables."""

import unittest
from itertools import islice, product
from random import Random
from reprlib import repr as shortened
from unittest.mock import patch

from stackeffect.errors import InvalidNumber, InvalidTable, InvalidWord, LimitExceeded
from stackeffect.tables import accepts, first_stack, how_many, is_finite, is_table, stacks
from tests.helpers import NOT_TABLES, NOT_WORDS, Odd, drawn_tables, is_read, raised, states_after, words

EXAMPLE = ([(0, 'a', 0), (0, 'b', 1)], [], [1])
BAD_STATES = [-1, 1000, 10 ** 39, True, False, None, '0', 0.0, 1.5, [], (0,), {}, b'', Odd(), object()]
BAD_ITEMS = ['', 'A', 'abcdefghi', 'a1', None, 0, True, ('a',), ['a'], b'a', Odd()]
BAD_EDGES = [None, (), (0, 'a'), (0, 'a', 0, 0), [0, 'a', 0], 'aaa', {0: 'a', 1: 'b', 2: 'c'}, 5, True, Odd(),
             ('a', 0, 0), (0, 0, 'a'), ('a', 'a', 'a'), (0, 0, 0)]
BAD_LISTS = [(), (0,), None, {}, {0}, {0: 0}, 'a', '', 0, True, range(1), iter([]), Odd()]
BAD_HEIGHTS = [-1, 201, 10 ** 39, True, False, None, '1', 1.0, [], (), {}, Odd()]
FUNCTIONS = [lambda table: accepts(table, ()), lambda table: list(stacks(table)), first_stack, is_finite,
             lambda table: how_many(table, 0)]


def all_tables_of_two_states():
    """All tables over the states 0 and 1 and one item."""
    parts = [[], [0], [1], [0, 1]]
    edges = [(state, 'a', target) for state in range(2) for target in range(2)]
    for chosen in range(16):
        taken = [edge for at, edge in enumerate(edges) if chosen >> at & 1]
        for skips, ends in product(parts, parts):
            yield taken, skips, ends


def many_items(many):
    """So many different items, in ascending order."""
    letters = 'abcdefghijklmnopqrstuvwxyz'
    return [one + two + three for one in letters for two in letters for three in letters][:many]


def from_the_bottom(place):
    """Accepts the stacks over a and b that have b so many places from the bottom."""
    edges = [(0, 'a', 0), (0, 'b', 0), (0, 'b', 1)]
    edges += [(state, item, state + 1) for state in range(1, place) for item in 'ab']
    return edges, [], [place]


def pairs_of_states(many):
    """A table whose items each lead to another set of two states, none of them state 0; it accepts nothing."""
    pairs = [(low, high) for high in range(2, 70) for low in range(1, high)][:many]
    return [(0, item, state) for item, pair in zip(many_items(many), pairs) for state in pair], [], []


class TestExamples(unittest.TestCase):
    def test_examples(self):
        self.assertIs(accepts(EXAMPLE, ('a', 'a', 'b')), True)
        self.assertEqual(first_stack(EXAMPLE), ('b',))
        self.assertIs(is_finite(EXAMPLE), False)
        self.assertEqual(how_many(EXAMPLE, 3), 1)


class TestIsTable(unittest.TestCase):
    def test_tables(self):
        for value in [([], [], []), EXAMPLE, ([(999, 'abcdefgh', 0), (0, 'a', 999)], [999, 0], [0, 999, 999]),
                      ([(0, 'a', 0)] * 5000, [], []), ([], list(range(1000)) * 3, [0] * 6000),
                      ([(5, 'a', 5), (5, 'a', 5)], [3, 3], [3, 3])]:
            self.assertIs(is_table(value), True)

    def test_values_of_every_kind(self):
        for value in NOT_TABLES:
            with self.subTest(shortened(value)):
                self.assertIs(is_table(value), False)

    def test_one_part_replaced(self):
        for bad, index in product(BAD_LISTS, range(3)):
            table = [[(0, 'a', 1)], [1], [1]]
            table[index] = bad
            with self.subTest(shortened(table)):
                self.assertIs(is_table(tuple(table)), False)

    def test_one_edge_replaced(self):
        edges = [(0, state, 0) for state in BAD_ITEMS] + [(state, 'a', 0) for state in BAD_STATES]
        edges += [(0, 'a', state) for state in BAD_STATES] + BAD_EDGES
        for bad, index in product(edges, range(3)):
            good = [(0, 'a', 1), (1, 'b', 1), (1, 'a', 0)]
            good[index] = bad
            with self.subTest(shortened(bad)):
                self.assertIs(is_table((good, [1], [1])), False)

    def test_one_state_replaced(self):
        for bad, index in product(BAD_STATES, range(3)):
            states = [0, 5, 999]
            states[index] = bad
            with self.subTest(shortened(bad)):
                self.assertIs(is_table(([], states, [])), False)
                self.assertIs(is_table(([], [], states)), False)

    def test_too_many_edges(self):
        edges = [(state, item, state) for state in range(1000) for item in 'abcde']
        self.assertIs(is_table((edges, [], [])), True)
        self.assertIs(is_table((edges + [(0, 'f', 0)], [], [])), False)
        self.assertIs(is_table((edges + [edges[0]], [], [])), False)

    def test_every_function_raises_invalid_table_first(self):
        calls = FUNCTIONS + [lambda table: accepts(table, None), lambda table: how_many(table, -1),
                             lambda table: how_many(table, True), lambda table: next(stacks(table))]
        for value, call in product(NOT_TABLES, calls):
            with self.subTest(shortened(value)):
                error, attributes = raised(lambda: call(value))
                self.assertIs(error, InvalidTable)
                self.assertIs(attributes['value'], value)


class TestAgainstReadingAllStacks(unittest.TestCase):
    def check(self, table, items, height):
        whole = words(items, height)
        found = [stack for stack in whole if is_read(table, stack)]
        for stack in whole:
            self.assertIs(accepts(table, stack), stack in found)
        # With at most three states there are infinitely many exactly if one has three to five items.
        infinite = any(3 <= len(stack) <= 5 for stack in found)
        self.assertIs(is_finite(table), not infinite)
        self.assertEqual(first_stack(table), found[0] if found else None)
        listed = list(islice(stacks(table), len(found) + 1))
        self.assertEqual(listed[:len(found)], found)
        if infinite:
            self.assertGreater(len(listed[-1]), height)
        else:
            self.assertEqual(listed, found)
        for many in range(height + 1):
            self.assertEqual(how_many(table, many), len([stack for stack in found if len(stack) == many]))

    def test_drawn_tables(self):
        for table in drawn_tables(Random(3), 400):
            with self.subTest(table=table):
                self.check(table, 'ab', 6)

    def test_all_tables_of_two_states(self):
        for table in all_tables_of_two_states():
            with self.subTest(table=table):
                self.check(table, 'a', 6)

    def test_doubled_and_reordered_lists(self):
        random = Random(4)
        for edges, skips, ends in drawn_tables(random, 150):
            other = [random.sample(part * 2, 2 * len(part)) for part in (edges, skips, ends)]
            for stack in words('ab', 5):
                self.assertIs(accepts(tuple(other), stack), accepts((edges, skips, ends), stack))
            self.assertEqual(list(islice(stacks(tuple(other)), 50)), list(islice(stacks((edges, skips, ends)), 50)))
            self.assertIs(is_finite(tuple(other)), is_finite((edges, skips, ends)))
            self.assertEqual([how_many(tuple(other), height) for height in range(8)],
                             [how_many((edges, skips, ends), height) for height in range(8)])

    def test_edges_into_state_0_and_skips_there(self):
        table = ([(0, 'a', 1), (1, 'b', 0), (2, 'c', 3)], [2], [3])
        self.assertEqual(list(islice(stacks(table), 3)), [('c',), ('a', 'b', 'c'), ('a', 'b', 'a', 'b', 'c')])
        self.assertIs(accepts(table, ('a', 'c')), False)
        self.check(([(0, 'a', 1), (1, 'b', 0), (2, 'a', 0)], [2, 1], [2]), 'ab', 6)
        self.check(([(0, 'a', 0), (1, 'b', 2), (2, 'b', 0)], [0, 1], [1]), 'ab', 6)

    def test_a_skip_after_the_last_item(self):
        table = ([(0, 'a', 1), (1, 'a', 0)], [2], [2])
        self.assertEqual([accepts(table, ('a',) * many) for many in range(5)], [True, False, True, False, True])

    def test_only_state_0_skips(self):
        table = ([(0, 'a', 1)], [1, 2], [2])
        self.assertEqual(list(stacks(table)), [()])
        self.assertIs(accepts(([(0, 'a', 1)], [2], [2]), ('a',)), False)

    def test_items_that_the_table_does_not_have(self):
        self.assertIs(accepts(EXAMPLE, ('b', 'c')), False)
        self.assertIs(accepts(EXAMPLE, ('c', 'b')), False)
        self.assertIs(accepts(EXAMPLE, ('abcdefgh',)), False)

    def test_states_with_large_numbers(self):
        table = ([(0, 'a', 999), (998, 'b', 0), (999, 'b', 0)], [998], [999, 998])
        for stack in words('ab', 5):
            self.assertIs(accepts(table, stack), is_read(table, stack))

    def test_long_stacks(self):
        self.assertIs(accepts(EXAMPLE, ('a',) * 4999 + ('b',)), True)
        self.assertIs(accepts(EXAMPLE, ('a',) * 5000), False)
        self.assertIs(accepts(EXAMPLE, ('a',) * 4998 + ('b', 'b')), False)


class TestStacks(unittest.TestCase):
    def check_order(self, found):
        keys = [(len(stack), stack) for stack in found]
        self.assertEqual(keys, sorted(set(keys)))

    def test_long_chains(self):
        edges = [(state, item, state + 1) for state in range(999) for item in ('b', 'a', 'aa')]
        table = (edges, [], [999, 500])
        found = list(islice(stacks(table), 100))
        self.assertEqual(found[0], ('a',) * 500)
        self.assertEqual(found[1:3], [('a',) * 499 + ('aa',), ('a',) * 499 + ('b',)])
        self.check_order(found)
        self.assertEqual(first_stack((edges, [], [999])), ('a',) * 999)
        self.assertIs(is_finite(table), True)

    def test_a_chain_of_one_item(self):
        table = ([(state, 'a', state + 1) for state in range(999)], [], [7, 999])
        self.assertEqual(list(stacks(table)), [('a',) * 7, ('a',) * 999])
        longer = ([(state, 'a', state + 1) for state in range(999)] + [(999, 'a', 999)], [], [999])
        self.assertEqual([len(stack) for stack in islice(stacks(longer), 5)], [999, 1000, 1001, 1002, 1003])

    def test_tables_without_end(self):
        for table in [EXAMPLE, from_the_bottom(4), ([(0, 'b', 0), (0, 'a', 0), (0, 'ab', 0)], [], [0]),
                      ([(0, 'b', 1), (0, 'a', 2), (1, 'a', 1), (2, 'b', 2), (1, 'c', 0)], [2], [1, 2])]:
            found = list(islice(stacks(table), 300))
            self.assertEqual(len(found), 300)
            self.check_order(found)
            self.assertTrue(all(is_read(table, stack) for stack in found))
            for height in range(min(len(found[-1]), 201)):
                self.assertEqual(len([stack for stack in found if len(stack) == height]), how_many(table, height))

    def test_no_beginnings_without_an_accepted_stack(self):
        # There are 2 ** 60 beginnings over a and b, but only those over c lead to an end.
        edges = [(0, 'a', 1), (0, 'b', 1), (1, 'a', 1), (1, 'b', 1), (0, 'c', 100), (1, 'd', 2)]
        edges += [(state, 'c', state + 1) for state in range(100, 160)]
        self.assertEqual(list(stacks((edges, [], [160]))), [('c',) * 61])
        # Beginnings that lead to an end, but never at this height.
        edges = [(0, item, 1) for item in 'ab'] + [(1, item, 0) for item in 'ab']
        edges += [(0, 'c', 100)] + [(state, 'c', state + 1) for state in range(100, 160)]
        chain = ([*edges, (160, 'z', 161)], [], [161])
        self.assertEqual(first_stack(chain), ('c',) * 61 + ('z',))
        edges = [(0, 'a', 0), (0, 'b', 0), (0, 'c', 1)] + [(state, 'c', state + 1) for state in range(1, 400)]
        self.assertEqual(list(islice(stacks((edges, [], [400])), 2)), [('c',) * 400, ('a',) + ('c',) * 400])

    def test_heights_without_stacks(self):
        table = ([(state, 'a', (state + 1) % 97) for state in range(97)], [], [5])
        self.assertEqual([len(stack) for stack in islice(stacks(table), 4)], [5, 102, 199, 296])

    def test_items_are_compared_as_strings(self):
        items = ['b', 'ab', 'aa', 'a', 'abcdefgh', 'z', 'ba']
        table = ([(0, item, 1) for item in items] + [(1, item, 2) for item in items], [], [1, 2])
        self.assertEqual(list(stacks(table)), words(items, 2)[1:])

    def test_no_stacks_at_all(self):
        for table in [([], [], []), ([(0, 'a', 0)], [], []), ([(1, 'a', 2)], [], [2]), ([(0, 'a', 1)], [], [2]),
                      ([(1, 'a', 1)], [], [1]), ([(0, 'a', 0), (1, 'a', 1)], [], [1])]:
            self.assertEqual(list(stacks(table)), [])
            self.assertIsNone(first_stack(table))
            self.assertIs(is_finite(table), True)
            self.assertEqual([how_many(table, height) for height in (0, 1, 200)], [0, 0, 0])

    def test_only_the_empty_stack(self):
        for table in [([], [], [0]), ([], [5], [5]), ([(1, 'a', 1), (0, 'b', 2)], [3], [0, 1])]:
            self.assertEqual(list(stacks(table)), [()])
            self.assertEqual(first_stack(table), ())

    def test_raises_when_the_first_value_is_requested(self):
        later = stacks(None)
        self.assertRaises(InvalidTable, lambda: next(later))

    def test_reads_its_table_when_the_first_value_is_requested(self):
        table = ([], [], [])
        later = stacks(table)
        table[0].append((0, 'a', 1))
        table[2].append(1)
        self.assertEqual(list(later), [('a',)])

    def test_later_changes_have_no_effect(self):
        table = ([(0, 'a', 0), (0, 'b', 1)], [1], [1])
        later = stacks(table)
        found = [next(later)]
        for part in table:
            part.clear()
        found += islice(later, 3)
        self.assertEqual(found, [(), ('a',), ('b',), ('a', 'a')])

    def test_two_at_once(self):
        one, two = stacks(EXAMPLE), stacks(EXAMPLE)
        self.assertEqual([next(one), next(one), next(two)], [('b',), ('a', 'b'), ('b',)])


class TestIsFinite(unittest.TestCase):
    def test_circles_that_do_not_matter(self):
        self.assertIs(is_finite(([(0, 'a', 1), (2, 'a', 2), (2, 'a', 1)], [], [1])), True)
        self.assertIs(is_finite(([(0, 'a', 1), (0, 'a', 2), (2, 'a', 2)], [], [1])), True)
        self.assertIs(is_finite(([(0, 'a', 1), (0, 'a', 2), (2, 'a', 2), (2, 'b', 1)], [], [1])), False)

    def test_circles_through_skips(self):
        self.assertIs(is_finite(([(1, 'a', 0)], [1], [1])), False)
        self.assertIs(is_finite(([(1, 'a', 0)], [2], [2])), True)
        self.assertIs(is_finite(([(1, 'a', 2)], [0, 1], [0, 2])), True)

    def test_large_circles(self):
        edges = [(state, 'a', state + 1) for state in range(999)]
        self.assertIs(is_finite((edges, [], [999])), True)
        self.assertIs(is_finite((edges + [(999, 'a', 0)], [], [999])), False)
        self.assertIs(is_finite((edges + [(999, 'a', 999)], [], [999])), False)
        self.assertIs(is_finite((edges + [(999, 'a', 999)], [], [998])), True)


class TestHowMany(unittest.TestCase):
    def test_up_to_height_200(self):
        every = ([(0, item, 0) for item in many_items(50)], [], [0])
        for height in (0, 1, 2, 100, 199, 200):
            self.assertEqual(how_many(every, height), 50 ** height)
            self.assertEqual(how_many(EXAMPLE, height), 1 if height else 0)
        for place, height in product((1, 3, 10), (9, 10, 11, 199, 200)):
            expected = 2 ** (height - 1) if height >= place else 0
            self.assertEqual(how_many(from_the_bottom(place), height), expected)

    def test_each_stack_counts_once(self):
        # Every stack over a and b is accepted in many ways.
        edges = [(state, item, target) for state in range(4) for target in range(4) for item in 'ab']
        for height in (0, 1, 5, 200):
            self.assertEqual(how_many((edges, [1, 2, 3], [0, 1, 2, 3]), height), 2 ** height)

    def test_a_long_chain(self):
        edges = [(state, item, state + 1) for state in range(200) for item in 'abc']
        self.assertEqual(how_many((edges, [], [200, 17]), 200), 3 ** 200)
        self.assertEqual([how_many((edges, [], [200, 17]), height) for height in (16, 17, 18)], [0, 3 ** 17, 0])

    def test_exactly_beyond_two_thousand_sets(self):
        exceeded = (LimitExceeded, {'limit': 2000})
        for many in (1, 1999, 2000):
            self.assertEqual([how_many(pairs_of_states(many), height) for height in (0, 1, 2)], [0, 0, 0])
        for many in (2001, 2002):
            self.assertEqual(how_many(pairs_of_states(many), 0), 0)
            for height in (1, 2, 200):
                self.assertEqual(raised(lambda: how_many(pairs_of_states(many), height)), exceeded)

    def test_sets_of_one_height_only(self):
        # The sets of two states lead to themselves by one item; none is new, and the heights do not add up.
        edges, skips, ends = pairs_of_states(2000)
        loops = [(state, 'a', state) for state in range(1, 70)]
        self.assertEqual(how_many((edges + loops, [], [1, 2]), 150), how_many((edges, [], [1, 2]), 1))
        chain = ([(state, item, state + 1) for state in range(12) for item in 'ab'], [], [12])
        self.assertEqual(how_many(chain, 12), 4096)

    def test_skips_are_included(self):
        edges, skips, ends = pairs_of_states(1999)
        # Without skips these two more items lead to different sets.
        edges = edges + [(0, 'y', 0), (0, 'z', 0), (0, 'z', 500)]
        self.assertEqual(how_many((edges, [500], []), 1), 0)
        self.assertEqual(raised(lambda: how_many((edges, [], []), 1)), (LimitExceeded, {'limit': 2000}))
        self.assertEqual(raised(lambda: how_many((edges + [(0, 'x', 700)], [500], []), 1)),
                         (LimitExceeded, {'limit': 2000}))

    def test_sets_of_words_that_are_not_accepted_count(self):
        self.assertEqual(how_many(from_the_bottom(11), 10), 0)
        for height in (11, 12, 200):
            self.assertEqual(raised(lambda: how_many(from_the_bottom(11), height)), (LimitExceeded, {'limit': 2000}))

    def test_sets_against_reading_with_smaller_limits(self):
        for table, limit in product(drawn_tables(Random(5), 150), (1, 2, 3, 4)):
            most = 0
            for height in range(6):
                sets = {states_after(table, stack) for stack in product('ab', repeat=height)} - {frozenset()}
                most = max(most, len(sets))
                with patch('stackeffect.tables.MOST_SETS', limit):
                    error = raised(lambda: how_many(table, height))
                self.assertEqual(error, (LimitExceeded, {'limit': limit}) if most > limit else None)

    def test_wrong_heights(self):
        for table, height in product([EXAMPLE, ([], [], []), pairs_of_states(2001)], BAD_HEIGHTS):
            error, attributes = raised(lambda: how_many(table, height))
            self.assertIs(error, InvalidNumber)
            self.assertIs(attributes['value'], height)


class TestCalls(unittest.TestCase):
    def test_wrong_stacks(self):
        for table, stack in product([EXAMPLE, ([], [], [])], NOT_WORDS):
            error, attributes = raised(lambda: accepts(table, stack))
            self.assertIs(error, InvalidWord)
            self.assertIs(attributes['value'], stack)

    def test_the_table_does_not_change(self):
        for table in [EXAMPLE, *drawn_tables(Random(6), 30)]:
            before = repr(table)
            accepts(table, ('a', 'b'))
            list(islice(stacks(table), 5))
            first_stack(table)
            is_finite(table)
            how_many(table, 5)
            is_table(table)
            self.assertEqual(repr(table), before)

    def test_changes_of_the_table_between_calls(self):
        table = ([(0, 'a', 1)], [], [1])
        self.assertEqual([first_stack(table), is_finite(table), how_many(table, 2)], [('a',), True, 0])
        table[0].append((1, 'b', 1))
        self.assertEqual([first_stack(table), is_finite(table), how_many(table, 2)], [('a',), False, 1])
        self.assertIs(accepts(table, ('a', 'b')), True)

    def test_by_name_in_another_order(self):
        self.assertIs(is_table(value=EXAMPLE), True)
        self.assertIs(accepts(stack=('a', 'b'), table=EXAMPLE), True)
        self.assertEqual(list(islice(stacks(table=EXAMPLE), 2)), [('b',), ('a', 'b')])
        self.assertEqual(first_stack(table=EXAMPLE), ('b',))
        self.assertIs(is_finite(table=EXAMPLE), False)
        self.assertEqual(how_many(height=3, table=EXAMPLE), 1)


if __name__ == '__main__':
    unittest.main()
