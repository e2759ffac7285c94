"""Point [12]: combinations of blocks that act as a wanted effect, and refutations."""

import unittest
from itertools import product
from random import Random
from reprlib import repr as shortened

from stackeffect.effects import Effect
from stackeffect.errors import InvalidBlocks, InvalidEffect, InvalidNumber, LimitExceeded
from stackeffect.reach import check
from stackeffect.tables import accepts
from stackeffect.wanted import combination, refutation
from tests.helpers import (Odd, after_block, after_blocks, drawn_blocks, drawn_word, is_certificate, is_read, not_blocks,
                           other_values, raised, words)

EXAMPLE = {'double': Effect(('x',), ('y', 'y')), 'drop': Effect(('y',), ())}
LETTERS = 'abcdefghijklmnopqrstuvwxyz'
BAD_MOST = [-1, 5001, 10 ** 39, True, False, None, '1', 1.0, [], (), {}, Odd()]
BAD_EFFECTS = [value for value in other_values() if not isinstance(value, Effect)] + [
    Effect.never(), Effect(('a',) * 30, ()), Effect((), ('a',) * 30), Effect(('a',) * 30, ('a',) * 30),
    (('a',), ('b',)), [], 'never', ('push', 'a'), [('push', 'a')], {'a': Effect.nothing()}, [Effect.nothing()]]


def acts_as(blocks, names, effect):
    """Whether a list of blocks turns every stack with these pops below which anything may stand into the pushes."""
    # What stands below is tried out: nothing, and items that no block has, one and two deep.
    return all(after_blocks(blocks, names, effect.pops + below) == effect.pushes + below
               for below in [(), ('q',), ('q', 'r'), ('r', 'q')])


def shortest_list(blocks, effect, most):
    """The least number of blocks, up to so many, that act as the effect, found through all lists; otherwise None."""
    level = {effect.pops + ('q',)}
    for many in range(most + 1):
        if effect.pushes + ('q',) in level:
            return many
        level = {after_block(block, stack) for block in blocks.values() for stack in level} - {None}
    return None


def first_free(blocks, effect):
    """The marker, by the definition."""
    used = {item for one in [*blocks.values(), effect] if not one.is_never for item in one.pops + one.pushes}
    return next(item for item in [*LETTERS, *(one + two for one in LETTERS for two in LETTERS)] if item not in used)


def drawn_cases(random, many):
    """Blocks and wanted effects: drawn ones, those of lists of blocks, and these with equal items below them."""
    for case in range(many):
        blocks = drawn_blocks(random, 'ab', (0, 1, 1, 2, 2, 3), random.randrange(1, 5))
        wanted = Effect(drawn_word(random, 'ab', range(4)), drawn_word(random, 'ab', range(4)))
        if case % 3:
            joined = Effect.nothing().then(*(random.choice(list(blocks.values())) for at in range(random.randrange(5))))
            if not joined.is_never:
                below = drawn_word(random, 'abc', (0, 0, 1, 3))
                wanted = Effect(joined.pops + below, joined.pushes + below)
        yield blocks, wanted


class TestExamples(unittest.TestCase):
    def test_examples(self):
        self.assertEqual(combination(EXAMPLE, Effect(('x',), ('y',))), ['double', 'drop'])
        self.assertEqual(refutation(EXAMPLE, Effect((), ('x',)))[:2], (('a',), ('x', 'a')))


class TestAgainstAllLists(unittest.TestCase):
    def check(self, blocks, effect):
        names, refuted = combination(blocks, effect), refutation(blocks, effect)
        shortest = shortest_list(blocks, effect, 4)
        if names is not None:
            self.assertTrue(acts_as(blocks, names, effect))
            self.assertTrue(len(names) == shortest if shortest is not None else len(names) > 4)
            self.assertIsNone(refuted)
            return
        self.assertIsNone(shortest)
        marker = first_free(blocks, effect)
        start, goal, table = refuted
        self.assertEqual((start, goal), (effect.pops + (marker,), effect.pushes + (marker,)))
        self.assertTrue(is_certificate(blocks, start, table))
        self.assertFalse(is_read(table, goal))
        self.assertIs(check(blocks, start, table), True)
        self.assertIs(accepts(table, goal), False)
        self.assertEqual([refuted.__class__, table.__class__], [tuple, tuple])

    def test_drawn_blocks(self):
        found = [0, 0]
        for blocks, effect in drawn_cases(Random(1), 600):
            with self.subTest(blocks=blocks, effect=effect):
                self.check(blocks, effect)
                found[refutation(blocks, effect) is None] += 1
        self.assertGreater(min(found), 100)

    def test_all_small_effects(self):
        for blocks in [EXAMPLE, {'x': Effect((), ('x',)), 'y': Effect(('x', 'x'), ('y',))},
                       {'x': Effect(('x',), ()), 'y': Effect.never()}, {'y': Effect.never()},
                       {'x': Effect(('x', 'y'), ('y', 'x')), 'y': Effect(('y', 'x'), ('x', 'y', 'y'))}]:
            for pops, pushes in product(words('xy', 2), repeat=2):
                with self.subTest(blocks=blocks, pops=pops, pushes=pushes):
                    self.check(blocks, Effect(pops, pushes))

    def test_more_than_a_list_of_four(self):
        self.assertEqual(len(combination(EXAMPLE, Effect(('x',) * 4, ('y',)))), 4 + 7)
        self.assertEqual(combination({'up': Effect((), ('a',))}, Effect((), ('a',) * 29)), ['up'] * 29)

    def test_peaks_make_no_difference(self):
        for effect in [Effect(('x',), ('y',)), Effect(('x', 'y'), ()), Effect((), ('x',))]:
            high = Effect(effect.pops, effect.pushes, peak=900)
            self.assertEqual(combination(EXAMPLE, high), combination(EXAMPLE, effect))
            self.assertEqual(refutation(EXAMPLE, high), refutation(EXAMPLE, effect))

    def test_blocks_that_succeed_on_more_stacks(self):
        self.assertEqual(combination(EXAMPLE, Effect(('x', 'x'), ('y', 'x'))), ['double', 'drop'])
        self.assertEqual(combination(EXAMPLE, Effect(('y', 'y'), ('y', 'y'))), [])
        self.assertEqual(combination(EXAMPLE, Effect.nothing()), [])
        # The blocks need more than the pops, so they do not turn every stack.
        self.assertIsNone(combination({'two': Effect(('x', 'x'), ('y', 'x'))}, Effect(('x',), ('y',))))
        self.assertEqual(combination({'two': Effect(('x', 'x'), ('y', 'x'))}, Effect(('x', 'x', 'x'), ('y', 'x', 'x'))),
                         ['two'])

    def test_items_below_that_the_blocks_do_not_have(self):
        self.assertEqual(combination(EXAMPLE, Effect(('x', 'a', 'b'), ('y', 'a', 'b'))), ['double', 'drop'])
        start, goal, table = refutation(EXAMPLE, Effect(('x', 'a', 'b'), ('y', 'b', 'a')))
        self.assertEqual((start, goal), (('x', 'a', 'b', 'c'), ('y', 'b', 'a', 'c')))
        self.assertTrue(is_certificate(EXAMPLE, start, table))
        self.assertFalse(is_read(table, goal))


class TestMarker(unittest.TestCase):
    def marker(self, blocks, effect):
        start, goal, table = refutation(blocks, effect)
        self.assertEqual(start[:-1], effect.pops)
        self.assertEqual(goal, effect.pushes + start[-1:])
        self.assertTrue(is_certificate(blocks, start, table))
        self.assertFalse(is_read(table, goal))
        return start[-1]

    def test_the_first_item_that_is_not_used(self):
        never = {'x': Effect.never()}
        self.assertEqual(self.marker(never, Effect((), ('b',))), 'a')
        self.assertEqual(self.marker(never, Effect((), ('a',))), 'b')
        self.assertEqual(self.marker(never, Effect(('a',), ())), 'b')
        self.assertEqual(self.marker(never, Effect(('a', 'c'), ('b', 'e'))), 'd')
        self.assertEqual(self.marker({'x': Effect(('a',), ()), 'y': Effect((), ('b',))}, Effect((), ('d',))), 'c')
        self.assertEqual(self.marker({'a': Effect(('b',), ()), 'c': Effect.never()}, Effect((), ('d',))), 'a')

    def test_by_length_and_then_alphabetically(self):
        almost = {'x': Effect(tuple('abcdefgh'), tuple('ijklmnop')), 'y': Effect(tuple('qrstuvw'), tuple('xy'))}
        self.assertEqual(self.marker(almost, Effect((), ('aa',))), 'z')
        self.assertEqual(self.marker(almost, Effect((), ('z',))), 'aa')
        self.assertEqual(self.marker(almost, Effect(('z',), ('aa', 'ac'))), 'ab')
        pairs = tuple('a' + letter for letter in LETTERS)
        self.assertEqual(self.marker(almost, Effect(('z',) + pairs, ('ba', 'bc'))), 'bb')

    def test_as_many_items_as_there_can_be(self):
        items = [*LETTERS, *(one + two for one in LETTERS for two in LETTERS)]
        blocks = {name: Effect(tuple(items[16 * at:16 * at + 8]), tuple(items[16 * at + 8:16 * at + 16]))
                  for at, name in enumerate('abcdefgh')}
        effect = Effect(tuple(items[128:157]), tuple(items[157:186]))
        self.assertEqual(self.marker(blocks, effect), items[186])


class TestMost(unittest.TestCase):
    def test_most(self):
        blocks = {'up': Effect((), ('a',)), 'no': Effect.never()}
        for wanted in [0, 1, 5, 29]:
            effect = Effect((), ('a',) * wanted)
            for most in [0, 1, 4, 5, 28, 29, 5000]:
                if wanted > most:
                    self.assertEqual(raised(lambda: combination(blocks, effect, most=most)),
                                     (LimitExceeded, {'limit': most}))
                else:
                    self.assertEqual(combination(blocks, effect, most=most), ['up'] * wanted)
        self.assertIsNone(combination(blocks, Effect(('a',), ()), most=0))

    def test_large_numbers(self):
        kinds = 'abcdefgh'
        blocks = {kinds[at]: Effect((kinds[at],), (kinds[at + 1],) * 8) for at in range(7)}
        blocks['h'] = Effect(('h',), ())
        number = (8 ** 4 - 1) // 7
        self.assertEqual(len(combination(blocks, Effect(('e',), ()))), number)
        self.assertEqual(raised(lambda: combination(blocks, Effect(('e',), ()), most=number - 1)),
                         (LimitExceeded, {'limit': number - 1}))
        self.assertEqual(len(combination(blocks, Effect(('d',), ()), most=5000)), 8 * number + 1)
        self.assertEqual(raised(lambda: combination(blocks, Effect(('d',), ()))), (LimitExceeded, {'limit': 1000}))
        self.assertEqual(raised(lambda: combination(blocks, Effect(('a',) * 29, ()), most=5000)),
                         (LimitExceeded, {'limit': 5000}))
        self.assertIsNone(refutation(blocks, Effect(('a',) * 29, ())))


class TestErrors(unittest.TestCase):
    def check_error(self, call, error, value):
        found, attributes = raised(call)
        self.assertIs(found, error)
        self.assertEqual(list(attributes), ['value'])
        self.assertIs(attributes['value'], value)

    def test_blocks_come_first(self):
        for blocks in not_blocks():
            with self.subTest(shortened(blocks)):
                self.check_error(lambda: combination(blocks, Effect.nothing()), InvalidBlocks, blocks)
                self.check_error(lambda: combination(blocks, None, most=-1), InvalidBlocks, blocks)
                self.check_error(lambda: refutation(blocks, Effect.nothing()), InvalidBlocks, blocks)
                self.check_error(lambda: refutation(blocks, None), InvalidBlocks, blocks)

    def test_then_the_effect(self):
        for effect in BAD_EFFECTS:
            with self.subTest(shortened(effect)):
                self.check_error(lambda: combination(EXAMPLE, effect), InvalidEffect, effect)
                self.check_error(lambda: combination(EXAMPLE, effect, most=-1), InvalidEffect, effect)
                self.check_error(lambda: refutation(EXAMPLE, effect), InvalidEffect, effect)

    def test_then_most(self):
        for most in BAD_MOST:
            with self.subTest(shortened(most)):
                self.check_error(lambda: combination(EXAMPLE, Effect.nothing(), most=most), InvalidNumber, most)
                self.check_error(lambda: combination(EXAMPLE, Effect((), ('x',)), most=most), InvalidNumber, most)
        self.assertIs(raised(lambda: combination(EXAMPLE, Effect.nothing(), 5))[0], TypeError)

    def test_values_at_the_bounds(self):
        self.assertEqual(combination(EXAMPLE, Effect(('x',) * 28, ('y', 'y') + ('x',) * 27), most=5000), ['double'])
        self.assertEqual(combination(EXAMPLE, Effect(('y',) * 29, ()), most=29), ['drop'] * 29)
        self.assertEqual(combination(EXAMPLE, Effect.nothing(), most=0), [])
        start, goal, table = refutation(EXAMPLE, Effect(('y',) * 29, ('x',) * 29))
        self.assertEqual((start, goal), (('y',) * 29 + ('a',), ('x',) * 29 + ('a',)))
        self.assertTrue(is_certificate(EXAMPLE, start, table))


class TestCalls(unittest.TestCase):
    def test_by_name_in_another_order(self):
        self.assertEqual(combination(most=2, effect=Effect(('x',), ('y',)), blocks=EXAMPLE), ['double', 'drop'])
        self.assertEqual(refutation(effect=Effect((), ('x',)), blocks=EXAMPLE)[:2], (('a',), ('x', 'a')))

    def test_the_order_of_the_dict_makes_no_difference(self):
        for blocks, effect in drawn_cases(Random(2), 80):
            other = dict(list(blocks.items())[::-1])
            self.assertEqual(combination(other, effect), combination(blocks, effect))
            self.assertEqual(refutation(other, effect), refutation(blocks, effect))

    def test_arguments_do_not_change_and_results_are_new(self):
        blocks, wanted = dict(EXAMPLE), Effect((), ('x',))
        one, other = refutation(blocks, wanted), refutation(blocks, wanted)
        before = repr(other)
        for values in one[2]:
            values.append('x')
        self.assertEqual([repr(other), repr(refutation(blocks, wanted))], [before] * 2)
        combination(blocks, Effect(('x',), ('y',))).append('x')
        self.assertEqual(combination(blocks, Effect(('x',), ('y',))), ['double', 'drop'])
        self.assertEqual(list(blocks.items()), list(EXAMPLE.items()))


if __name__ == '__main__':
    unittest.main()
