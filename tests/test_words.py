"""Point [5]: items, words, steps, and sequences that are run on a stack."""

import unittest
from itertools import product
from reprlib import repr as shortened

from stackeffect.errors import InvalidNumber, InvalidSteps, InvalidWord
from stackeffect.words import failing_index, is_item, is_sequence, is_word, reverse, run, trace
from tests.helpers import BAD_LIMITS, LIMITS, Odd, other_values, raised, result, stages, step_lists, words

GOOD_ITEMS = ['a', 'z', 'ab', 'push', 'pop', 'limit', 'abcdefgh', 'zzzzzzzz', 'aaaaaaaa']
BAD_ITEMS = ['', 'abcdefghi', 'A', 'aB', 'a1', '1', 'a b', ' a', 'a ', 'a\n', '\n', '-', 'a.b', 'a_b', '_', '`', '{',
             '@', '[', 'Z', '0', '~', 'abcdefgH', 'a' * 5000]
NOT_STEPS = [None, 'push', 'pa', 5, True, (), ('push',), ('push', 'a', 'a'), ['push', 'a'], ('Push', 'a'),
             ('peek', 'a'), ('a', 'push'), ('', 'a'), ('push', 'A'), ('push', ''), ('push', 'abcdefghi'),
             ('push', None), ('push', ('a',)), (None, 'a'), (True, 'a'), ([], 'a'), ({}, 'a'), (b'push', 'a'),
             ('push', b'a'), (('push',), 'a'), ('push', 1), {'push': 'a', 'pop': 'b'}, {'push', 'a'}, (Odd(), 'a'),
             ('push', Odd()), Odd(), ('pushpop', 'a'), ('pu', 'a'), ('push', 'x', 'a'), ('push', ['a']), object()]
PUSH, POP = ('push', 'a'), ('pop', 'a')
NOT_SEQUENCES = [None, True, False, 0, 1, 'a', '', 'push', {}, {0: PUSH}, {PUSH}, frozenset([PUSH]), iter([PUSH]),
                 range(0), b'', object(), Odd(), [PUSH] * 1001, (PUSH,) * 1001, [5] * 1001, [None] * 5000]
NOT_WORDS = [None, True, False, 0, 'a', '', 'ab', ['a'], [], {}, {'a'}, {'a': 1}, b'a', ('A',), ('a', ''), ('a', 1),
             ('a', None), ('a', True), ('a', ('b',)), (('a',),), ('abcdefghi',), ('a', 'b', 'c1'), (b'a',), Odd(),
             (Odd(),), range(0), object()]


class TestKinds(unittest.TestCase):
    def test_items(self):
        for value in GOOD_ITEMS + list('abcdefghijklmnopqrstuvwxyz') + ['a' * many for many in range(1, 9)]:
            with self.subTest(shortened(value)):
                self.assertIs(is_item(value), True)

    def test_not_items(self):
        printable = [chr(code) for code in range(32, 127) if chr(code) not in 'abcdefghijklmnopqrstuvwxyz']
        lists = [('a',), ['a'], ['a', 'b'], [], ()]
        for value in BAD_ITEMS + other_values() + printable + ['a' + sign for sign in printable] + lists:
            with self.subTest(shortened(value)):
                self.assertIs(is_item(value), False)

    def test_words(self):
        for value in [(), ('a',), ('a', 'a'), tuple(GOOD_ITEMS), ('push', 'a'), ('abcdefgh',) * 5000]:
            with self.subTest(len(value)):
                self.assertIs(is_word(value), True)

    def test_not_words(self):
        for value in NOT_WORDS + other_values() + GOOD_ITEMS + [GOOD_ITEMS]:
            with self.subTest(shortened(value)):
                self.assertIs(is_word(value), False)

    def test_words_with_one_part_replaced(self):
        for bad in BAD_ITEMS + other_values() + [('a',), ['a']]:
            for index in range(3):
                word = ['a', 'b', 'abcdefgh']
                word[index] = bad
                with self.subTest(shortened(word)):
                    self.assertIs(is_word(tuple(word)), False)

    def test_sequences(self):
        for steps in [[], [PUSH], [POP], [PUSH, POP] * 500, [('push', 'abcdefgh'), ('pop', 'z')], [PUSH] * 999]:
            with self.subTest(len(steps)):
                self.assertIs(is_sequence(steps), True)
                self.assertIs(is_sequence(tuple(steps)), True)

    def test_every_item_in_a_step(self):
        for item, action in product(GOOD_ITEMS, ['push', 'pop']):
            self.assertIs(is_sequence([(action, item)]), True)

    def test_not_sequences(self):
        for value in NOT_SEQUENCES + other_values() + [PUSH, list(PUSH)]:
            with self.subTest(shortened(value)):
                self.assertIs(is_sequence(value), False)

    def test_sequences_with_one_part_replaced(self):
        wrong = NOT_STEPS + [('push', item) for item in BAD_ITEMS] + [('pop', item) for item in BAD_ITEMS]
        for bad in wrong + other_values():
            for index in range(3):
                steps = [PUSH, POP, ('push', 'abcdefgh')]
                steps[index] = bad
                with self.subTest(shortened(steps)):
                    self.assertIs(is_sequence(steps), False)
                    self.assertIs(is_sequence(tuple(steps)), False)


class TestExamples(unittest.TestCase):
    def test_examples(self):
        self.assertEqual(run([('pop', 'a'), ('push', 'b')], ('a', 'c')), ('b', 'c'))
        self.assertEqual(failing_index([('push', 'b'), ('push', 'b')], ('a',), limit=2), 1)
        self.assertEqual(list(trace([('push', 'b'), ('pop', 'a')], ('a',))), [('a',), ('b', 'a')])


class TestRunning(unittest.TestCase):
    def test_all_small_sequences_on_all_small_stacks(self):
        for steps, stack, limit in product(step_lists('ab', 3), words('ab', 3), LIMITS):
            seen, failed = stages(steps, stack, limit)
            expected = seen[-1] if failed is None else None
            for form in (steps, tuple(steps)):
                self.assertEqual(run(form, stack, limit=limit), expected)
                self.assertEqual(failing_index(form, stack, limit=limit), failed)
                self.assertEqual(list(trace(form, stack, limit=limit)), seen)

    def test_a_push_fails_at_the_limit(self):
        self.assertIsNone(run([PUSH], ('b', 'c'), limit=2))
        self.assertEqual(failing_index([PUSH], ('b', 'c'), limit=2), 0)
        self.assertEqual(run([PUSH], ('b', 'c'), limit=3), ('a', 'b', 'c'))
        self.assertIsNone(failing_index([PUSH], ('b', 'c'), limit=3))
        self.assertEqual(failing_index([PUSH], (), limit=0), 0)
        self.assertEqual(run([], (), limit=0), ())

    def test_a_push_that_fails_although_a_pop_would_follow(self):
        self.assertEqual(failing_index([PUSH, POP], ('b',), limit=1), 0)
        self.assertEqual(run([('pop', 'b'), PUSH], ('b',), limit=1), ('a',))

    def test_a_pop_fails_on_another_item_and_on_the_empty_stack(self):
        for stack in [(), ('b',), ('b', 'a'), ('aa',), ('ab', 'a')]:
            self.assertIsNone(run([POP], stack))
            self.assertEqual(failing_index([PUSH, POP, POP], stack), 2)

    def test_too_high_at_the_beginning(self):
        for steps in [[], [POP], [POP, POP], [PUSH], [('pop', 'b')]]:
            self.assertIsNone(run(steps, ('a', 'a', 'a'), limit=2))
            self.assertEqual(failing_index(steps, ('a', 'a', 'a'), limit=2), -1)
            self.assertEqual(list(trace(steps, ('a', 'a', 'a'), limit=2)), [])
        self.assertEqual(failing_index([], ('a',) * 1001, limit=1000), -1)
        self.assertEqual(run([], ('a',) * 1001), ('a',) * 1001)

    def test_long_sequences(self):
        stack = ('b',) * 4000
        self.assertEqual(run([PUSH] * 1000, stack), ('a',) * 1000 + stack)
        self.assertEqual(run((PUSH, POP) * 500, stack), stack)
        self.assertEqual(run([PUSH] * 1000, (), limit=1000), ('a',) * 1000)
        self.assertEqual(failing_index([PUSH] * 1000, ('b',), limit=1000), 999)
        self.assertEqual(len(list(trace([PUSH] * 1000, ()))), 1001)

    def test_in_two_parts(self):
        for first, second in product(step_lists('ab', 2), repeat=2):
            for stack, limit in product(words('ab', 2), [None, 0, 1, 2, 3]):
                self.check_two_parts(first, second, stack, limit)

    def check_two_parts(self, first, second, stack, limit):
        whole = first + second
        middle = run(first, stack, limit=limit)
        seen = list(trace(first, stack, limit=limit))
        if middle is None:
            self.assertIsNone(run(whole, stack, limit=limit))
            failed = failing_index(first, stack, limit=limit)
        else:
            self.assertEqual(run(whole, stack, limit=limit), run(second, middle, limit=limit))
            later = failing_index(second, middle, limit=limit)
            failed = None if later is None else later + len(first)
            seen = seen[:-1] + list(trace(second, middle, limit=limit))
        self.assertEqual(failing_index(whole, stack, limit=limit), failed)
        self.assertEqual(list(trace(whole, stack, limit=limit)), seen)

    def test_arguments_do_not_change(self):
        steps = [PUSH, ('pop', 'b')]
        run(steps, ())
        failing_index(steps, ())
        list(trace(steps, ()))
        reverse(steps)
        self.assertEqual(steps, [('push', 'a'), ('pop', 'b')])

    def test_by_name_in_another_order(self):
        self.assertEqual(run(limit=2, stack=('b',), steps=[PUSH]), ('a', 'b'))
        self.assertEqual(failing_index(stack=('b',), limit=1, steps=[PUSH]), 0)
        self.assertEqual(list(trace(stack=('b',), limit=2, steps=[PUSH])), [('b',), ('a', 'b')])
        self.assertEqual(reverse(steps=[PUSH]), [POP])
        self.assertIs(is_item(value='a'), True)
        self.assertIs(is_word(value=('a',)), True)
        self.assertIs(is_sequence(value=[PUSH]), True)

    def test_the_limit_is_passed_by_name_only(self):
        for function in (run, failing_index, trace):
            self.assertRaises(TypeError, lambda: function([], (), 5))


class TestTraceAsGenerator(unittest.TestCase):
    def test_raises_when_the_first_value_is_requested(self):
        stages_later = trace(None, (), limit=-1)
        self.assertRaises(InvalidSteps, lambda: next(stages_later))

    def test_reads_its_steps_when_the_first_value_is_requested(self):
        steps = []
        stages_later = trace(steps, ())
        steps.append(PUSH)
        self.assertEqual(list(stages_later), [(), ('a',)])

    def test_later_changes_have_no_effect(self):
        steps = [PUSH, PUSH]
        stages_later = trace(steps, ())
        self.assertEqual(next(stages_later), ())
        steps[:] = [5]
        self.assertEqual(next(stages_later), ('a',))
        steps.clear()
        self.assertEqual(list(stages_later), [('a', 'a')])


class TestErrors(unittest.TestCase):
    def calls(self, steps, stack, limit):
        return [lambda: run(steps, stack, limit=limit), lambda: failing_index(steps, stack, limit=limit),
                lambda: next(trace(steps, stack, limit=limit))]

    def check(self, steps, stack, limit, kind, attribute, value):
        for call in self.calls(steps, stack, limit):
            with self.subTest(steps=shortened(steps), stack=shortened(stack), limit=limit):
                error, attributes = raised(call)
                self.assertIs(error, kind)
                if attribute == 'index':
                    self.assertEqual(attributes, {'index': value})
                else:
                    self.assertIs(attributes[attribute], value)

    def test_steps_that_are_no_list(self):
        for steps in NOT_SEQUENCES:
            self.check(steps, (), None, InvalidSteps, 'index', None)
            self.assertEqual(raised(lambda: reverse(steps)), (InvalidSteps, {'index': None}))

    def test_elements_that_are_no_steps(self):
        for bad, index in product(NOT_STEPS, range(3)):
            steps = [POP, POP, PUSH]
            steps[index] = bad
            for form in (steps, tuple(steps), steps + [None], steps[:index + 1] * 2):
                self.check(form, (), None, InvalidSteps, 'index', index)
                self.assertEqual(raised(lambda: reverse(form)), (InvalidSteps, {'index': index}))

    def test_the_last_of_a_thousand(self):
        self.check([PUSH] * 999 + [5], (), None, InvalidSteps, 'index', 999)
        self.check([PUSH] * 1000 + [5], (), None, InvalidSteps, 'index', None)

    def test_stacks_that_are_no_words(self):
        for stack in NOT_WORDS:
            self.check([PUSH], stack, None, InvalidWord, 'value', stack)
            self.check([], stack, 0, InvalidWord, 'value', stack)

    def test_limits(self):
        for limit in BAD_LIMITS + [Odd()]:
            self.check([PUSH], ('a',), limit, InvalidNumber, 'value', limit)
        for limit in [None, 0, 1, 999, 1000]:
            for call in self.calls([], (), limit):
                self.assertIsNone(raised(call))

    def test_the_leftmost_error_first(self):
        for steps, stack, limit in product([None, [5]], [[], ('A',), ()], [-1, True, None]):
            self.check(steps, stack, limit, InvalidSteps, 'index', None if steps is None else 0)
        for stack, limit in product([[], ('A',)], [-1, True, 1001]):
            self.check([PUSH], stack, limit, InvalidWord, 'value', stack)

    def test_an_error_also_where_the_sequence_would_fail(self):
        self.check([POP, 5], (), 0, InvalidSteps, 'index', 1)
        self.check([POP], ('b',), -1, InvalidNumber, 'value', -1)
        self.check([POP], ('b', 'B'), 1, InvalidWord, 'value', ('b', 'B'))


class TestReverse(unittest.TestCase):
    def test_order_and_exchange(self):
        steps = [('push', 'a'), ('push', 'b'), ('pop', 'c')]
        expected = [('push', 'c'), ('pop', 'b'), ('pop', 'a')]
        self.assertEqual(reverse(steps), expected)
        self.assertEqual(reverse(tuple(steps)), expected)
        self.assertEqual(reverse([]), [])
        self.assertEqual(reverse(()), [])

    def test_twice(self):
        for steps in step_lists('ab', 3):
            again = reverse(reverse(steps))
            self.assertEqual(again, steps)
            self.assertIsNot(again, steps)

    def test_a_new_list_each_time(self):
        steps = [PUSH]
        first = reverse(steps)
        first.append(5)
        self.assertEqual(steps, [PUSH])
        self.assertEqual(reverse(steps), [POP])
        self.assertIsInstance(reverse((PUSH,)), list)

    def test_turns_the_result_back(self):
        for steps, stack, limit in product(step_lists('ab', 3), words('ab', 3), [None, 1, 2, 4]):
            end = result(steps, stack, limit)
            if end is not None:
                self.assertEqual(run(reverse(steps), end, limit=limit), stack)


if __name__ == '__main__':
    unittest.main()
