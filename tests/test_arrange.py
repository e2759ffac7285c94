"""Point [14]: arrangements of items by means of stacks."""

import unittest
from itertools import permutations, product
from random import Random
from reprlib import repr as shortened

from stackeffect.arrange import conflicts, fewest_stacks, is_assignment, moves, orders_many
from stackeffect.errors import InvalidNumber, InvalidOrder
from tests.helpers import Odd, other_values, raised

NOT_ORDERS = other_values() + [
    (), (0,), (0, 1), '', '0', [1], [-1], [0, 0], [0, 2], [1, 2], [0, 1, 1], [True], [False], [0, True], [False, 1],
    [0.0], ['0'], [None], [[0]], [(0,)], [Odd()], [0, Odd()], [1, 0, 3], list(range(10)), list(range(9)) + [8],
    list(range(1, 10)), [10 ** 39], {0: 0}, {0}, range(2), [b'0']]
BAD_STACKS = [-1, True, False, None, '0', 0.0, 1.5, [], (0,), {}, b'', Odd(), object()]


def all_orders(many):
    return [list(order) for order in permutations(range(many))]


def drawn_orders(random, many, least=6):
    return [random.sample(range(length), length) for length in (random.randrange(least, 10) for case in range(many))]


def ways(order, assignment):
    """All lists of moves that produce the order with this assignment, found by trying each move in turn."""
    found, pending = [], [[]]
    while pending:
        done = pending.pop()
        entered = [item for action, item, stack in done if action == 'in']
        left = [item for action, item, stack in done if action == 'out']
        if left == order:
            found.append(done)
            continue
        if len(entered) < len(order):
            pending.append([*done, ('in', len(entered), assignment[len(entered)])])
        wanted = order[len(left)]
        inside = [item for item in entered if item not in left and assignment[item] == assignment[wanted]]
        if inside[-1:] == [wanted]:
            pending.append([*done, ('out', wanted, assignment[wanted])])
    return found


def by_definition(order):
    """The conflicts, by the definition."""
    leaves = {item: at for at, item in enumerate(order)}
    return [(a, b) for a in sorted(order) for b in sorted(order)
            if a < b and leaves[a] < leaves[b] and any(leaves[c] < leaves[a] for c in order if c > b)]


def is_free(pairs, assignment):
    return all(assignment[a] != assignment[b] for a, b in pairs)


def first_free(pairs, chosen, many, stacks):
    """The least assignment without conflicts that begins so, or None."""
    if not is_free([pair for pair in pairs if pair[1] < len(chosen)], chosen):
        return None
    if len(chosen) == many:
        return chosen
    tried = (first_free(pairs, [*chosen, stack], many, stacks) for stack in range(stacks))
    return next((found for found in tried if found is not None), None)


class TestExamples(unittest.TestCase):
    def test_examples(self):
        self.assertEqual(conflicts([2, 0, 1]), [(0, 1)])
        self.assertEqual(fewest_stacks([2, 0, 1]), (2, [0, 1, 0]))
        self.assertEqual(moves([1, 0], [0, 0]), [('in', 0, 0), ('in', 1, 0), ('out', 1, 0), ('out', 0, 0)])


class TestAgainstAllWays(unittest.TestCase):
    def test_assignments(self):
        for many in range(5):
            for order in all_orders(many):
                for value in product(range(many), repeat=many):
                    found = ways(order, value)
                    self.assertIs(is_assignment(order, list(value)), bool(found), (order, value))
                    if found:
                        self.check_moves(order, list(value), found)
                    else:
                        self.assertEqual(raised(lambda: moves(order, list(value))),
                                         (InvalidOrder, {'value': list(value)}))

    def check_moves(self, order, value, found):
        """The list is one of the ways, and in no other way an item enters after more items have left."""
        chosen = moves(order, value)
        self.assertIn(chosen, found)
        for item in order:
            left = [way[:way.index(('in', item, value[item]))] for way in [chosen, *found]]
            many = [len([move for move in before if move[0] == 'out']) for before in left]
            self.assertEqual(many[0], max(many))

    def test_pairs_that_cannot_use_the_same_stack(self):
        for many in range(6):
            for order in all_orders(many):
                # With all other items on stacks of their own.
                expected = []
                for a, b in product(range(many), repeat=2):
                    value = [a if item == b else item for item in range(many)]
                    if a < b and not ways(order, value):
                        expected.append((a, b))
                self.assertEqual(conflicts(order), expected)

    def test_the_least_assignment_to_the_fewest_stacks(self):
        for many in range(6):
            for order in all_orders(many):
                number, assignment = fewest_stacks(order)
                found = [next((list(value) for value in product(range(stacks), repeat=many) if ways(order, value)), None)
                         for stacks in range(number + 1)]
                self.assertEqual(found, [None] * number + [assignment])

    def test_orders_many(self):
        for many in range(6):
            fewest = [fewest_stacks(order)[0] for order in all_orders(many)]
            for stacks in range(1, 5):
                self.assertEqual(orders_many(many, stacks), len([number for number in fewest if number <= stacks]))
                if many < 5:
                    possible = [order for order in all_orders(many)
                                if any(ways(order, value) for value in product(range(stacks), repeat=many))]
                    self.assertEqual(orders_many(many, stacks), len(possible))


class TestAgainstTheDefinition(unittest.TestCase):
    def test_conflicts(self):
        for order in all_orders(7) + drawn_orders(Random(1), 500):
            self.assertEqual(conflicts(order), by_definition(order))

    def test_fewest_stacks(self):
        seen = set()
        for order in all_orders(6) + drawn_orders(Random(2), 400) + [[8, 0, 1, 2, 3, 4, 5, 6, 7]]:
            number, assignment = fewest_stacks(order)
            pairs = by_definition(order)
            found = [first_free(pairs, [], len(order), stacks) for stacks in range(number + 1)]
            self.assertEqual(found, [None] * number + [assignment])
            seen.add(number)
        self.assertTrue({1, 2, 3, 4, 5, 8} <= seen)

    def test_assignments(self):
        random, seen = Random(3), set()
        for order in drawn_orders(random, 400, least=0):
            pairs = by_definition(order)
            for stacks in (1, 2, 3, 9, 10 ** 39):
                value = [random.randrange(stacks) for item in order]
                self.assertIs(is_assignment(order, value), is_free(pairs, value))
                seen.add((stacks, is_free(pairs, value)))
        self.assertTrue({(2, True), (2, False), (9, True), (9, False)} <= seen)

    def test_moves(self):
        for order in drawn_orders(Random(4), 400, least=0) + all_orders(5):
            number, assignment = fewest_stacks(order)
            stacks, arrived, left, last = {}, [], [], None
            for action, item, stack in moves(order, assignment):
                self.assertEqual(stack, assignment[item])
                if action == 'in':
                    stacks.setdefault(stack, []).append(item)
                    arrived.append(item)
                else:
                    # An item enters only because it, or one after it, leaves next.
                    self.assertTrue(last != 'in' or item == arrived[-1])
                    self.assertEqual(stacks[stack].pop(), item)
                    left.append(item)
                last = action
            self.assertEqual(arrived, sorted(order))
            self.assertEqual(left, order)

    def test_known_numbers(self):
        self.assertEqual([orders_many(many, 1) for many in range(7)], [1, 1, 2, 5, 14, 42, 132])
        self.assertEqual([orders_many(many, 2) for many in range(7)], [1, 1, 2, 6, 23, 103, 513])
        self.assertEqual([orders_many(6, stacks) for stacks in range(1, 5)], [132, 513, 694, 719])
        for stacks in range(1, 5):
            found = [order for order in all_orders(6) if first_free(by_definition(order), [], 6, stacks) is not None]
            self.assertEqual(orders_many(6, stacks), len(found))

    def test_no_and_few_items(self):
        self.assertEqual(conflicts([]), [])
        self.assertEqual(fewest_stacks([]), (0, []))
        self.assertEqual(moves([], []), [])
        self.assertIs(is_assignment([], []), True)
        self.assertEqual(fewest_stacks([0]), (1, [0]))
        self.assertEqual(moves([0], [7]), [('in', 0, 7), ('out', 0, 7)])

    def test_nine_items(self):
        self.assertEqual(fewest_stacks(list(range(9))), (1, [0] * 9))
        self.assertEqual(fewest_stacks(list(range(9))[::-1]), (1, [0] * 9))
        self.assertEqual(fewest_stacks([8, 0, 1, 2, 3, 4, 5, 6, 7]), (8, [0, 1, 2, 3, 4, 5, 6, 7, 0]))
        self.assertEqual(len(conflicts([8, 0, 1, 2, 3, 4, 5, 6, 7])), 28)

    def test_the_least_assignment_is_not_always_the_first_that_fits(self):
        # Each item in turn on the lowest stack that is free for it would take more stacks.
        greedy = 0
        for order in all_orders(8)[::7]:
            pairs, chosen = by_definition(order), []
            for item in range(8):
                taken = [chosen[a] for a, b in pairs if b == item]
                chosen.append(min(set(range(9)) - set(taken)))
            number, assignment = fewest_stacks(order)
            greedy += max(chosen) + 1 > number
            self.assertTrue(is_free(pairs, assignment))
            self.assertLessEqual(number, max(chosen) + 1)
        self.assertGreater(greedy, 0)

    def test_an_order_without_one_item(self):
        for order in drawn_orders(Random(5), 200, least=1):
            for gone in order:
                rest = [item - (item > gone) for item in order if item != gone]
                self.assertLessEqual(fewest_stacks(rest)[0], fewest_stacks(order)[0])


class TestErrors(unittest.TestCase):
    def check_error(self, call, error, value):
        found, attributes = raised(call)
        self.assertIs(found, error)
        self.assertEqual(list(attributes), ['value'])
        self.assertIs(attributes['value'], value)

    def test_orders(self):
        for value in NOT_ORDERS:
            for call in [conflicts, fewest_stacks, lambda order: is_assignment(order, None),
                         lambda order: is_assignment(order, []), lambda order: moves(order, []),
                         lambda order: moves(order, None), lambda order: moves(order, [0])]:
                with self.subTest(shortened(value)):
                    self.check_error(lambda: call(value), InvalidOrder, value)

    def test_values_that_are_not_assignments(self):
        values = [value for value in NOT_ORDERS if not isinstance(value, list) or len(value) != 3]
        values += [[0, 0], [0, 0, 0, 0], (0, 1, 2), [], {0: 0, 1: 1, 2: 2}, '012', range(3)]
        values += [[0, 1, 2][:at] + [bad] + [0, 1, 2][at + 1:] for bad in BAD_STACKS for at in range(3)]
        for value in values:
            with self.subTest(shortened(value)):
                self.assertIs(is_assignment([0, 1, 2], value), False)
                self.check_error(lambda: moves([0, 1, 2], value), InvalidOrder, value)

    def test_assignments_that_do_not_produce_the_order(self):
        for value in [[0, 0, 0], [0, 0, 1], [5, 5, 0]]:
            self.assertIs(is_assignment([2, 0, 1], value), False)
            self.check_error(lambda: moves([2, 0, 1], value), InvalidOrder, value)
        for value in [[0, 1, 0], [0, 1, 1], [0, 1, 2], [9, 10 ** 39, 9]]:
            self.assertIs(is_assignment([2, 0, 1], value), True)
            self.assertEqual(moves([2, 0, 1], value)[0], ('in', 0, value[0]))

    def test_numbers(self):
        for bad in [-1, 7, 10 ** 39, True, False, None, '1', 1.0, [], (), {}, Odd()]:
            with self.subTest(shortened(bad)):
                self.check_error(lambda: orders_many(bad, 1), InvalidNumber, bad)
                self.check_error(lambda: orders_many(bad, None), InvalidNumber, bad)
        for bad in [0, -1, 5, 10 ** 39, True, False, None, '1', 1.0, [], (), {}, Odd()]:
            with self.subTest(shortened(bad)):
                self.check_error(lambda: orders_many(0, bad), InvalidNumber, bad)
                self.check_error(lambda: orders_many(6, bad), InvalidNumber, bad)


class TestCalls(unittest.TestCase):
    def test_by_name_in_another_order(self):
        self.assertEqual(conflicts(order=[2, 0, 1]), [(0, 1)])
        self.assertEqual(fewest_stacks(order=[2, 0, 1]), (2, [0, 1, 0]))
        self.assertIs(is_assignment(value=[0, 1, 0], order=[2, 0, 1]), True)
        self.assertEqual(moves(assignment=[0, 1], order=[0, 1]), moves([0, 1], [0, 1]))
        self.assertEqual(orders_many(stacks=2, n=4), 23)

    def test_arguments_do_not_change_and_results_are_new(self):
        order, assignment = [2, 0, 1], [0, 1, 0]
        conflicts(order).append(None)
        fewest_stacks(order)[1].append(None)
        moves(order, assignment).append(None)
        self.assertEqual((order, assignment), ([2, 0, 1], [0, 1, 0]))
        self.assertEqual(conflicts(order), [(0, 1)])
        self.assertEqual(fewest_stacks(order), (2, [0, 1, 0]))
        self.assertEqual(len(moves(order, assignment)), 6)


if __name__ == '__main__':
    unittest.main()
