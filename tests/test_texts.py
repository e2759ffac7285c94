"""Point [17], the texts: words, sequences and effects, written and read."""

import re
import unittest
from random import Random
from reprlib import repr as shortened

from stackeffect.effects import Effect, effect_of
from stackeffect.errors import InvalidText
from stackeffect.texts import format_effect, format_steps, format_word, parse_effect, parse_steps, parse_word
from tests.helpers import NOT_WORDS, Odd, drawn_word, other_values, raised, small_effects, step_lists, words

ITEMS = ['a', 'b', 'z', 'pop', 'push', 'never', 'abcdefgh']
WORD = r'(?:-|[a-z]{1,8}(?:\.[a-z]{1,8})*)'
WORD_TEXT = re.compile(WORD)
STEPS_TEXT = re.compile(r'\.|[+-][a-z]{1,8}(?: [+-][a-z]{1,8}){0,999}')
EFFECT_TEXT = re.compile(rf'never|({WORD}) > ({WORD}) \^ (0|[1-9][0-9]*)')
NOT_STRINGS = other_values() + [[], (), ['a'], ('a',), [('push', 'a')], b'never', {'-': 1}]


def word_of(text):
    return () if text == '-' else tuple(text.split('.'))


def read_word(text):
    """The word that is written so, in brackets; no brackets if there is none."""
    return [word_of(text)] if WORD_TEXT.fullmatch(text) else []


def read_steps(text):
    if not STEPS_TEXT.fullmatch(text):
        return []
    return [[({'+': 'push', '-': 'pop'}[part[0]], part[1:]) for part in text.split(' ') if part != '.']]


def read_effect(text):
    found = EFFECT_TEXT.fullmatch(text)
    if found is None or text == 'never':
        return [] if found is None else [Effect.never()]
    pops, pushes, peak = word_of(found[1]), word_of(found[2]), int(found[3])
    return [Effect(pops, pushes, peak=peak)] if peak >= max(0, len(pushes) - len(pops)) else []


def drawn_sequence(random):
    return [(random.choice(['push', 'pop']), random.choice(ITEMS)) for at in range(random.choice([0, 1, 2, 3, 5]))]


def drawn_effect(random):
    if random.random() < 0.1:
        return Effect.never()
    pops, pushes = drawn_word(random, ITEMS, (0, 1, 2, 3)), drawn_word(random, ITEMS, (0, 1, 2, 3))
    least = max(0, len(pushes) - len(pops))
    return Effect(pops, pushes, peak=random.choice([None, least, least + 1, least + 9, 100, 10 ** 39]))


def changed(random, text):
    """The text with characters or words replaced, missing, doubled or added."""
    for time in range(random.choice((1, 1, 2))):
        at = random.randrange(len(text) + 1)
        to = at + random.choice((0, 1, 1, 2))
        kind = random.choice(['replaced', 'missing', 'doubled', 'word', 'moved'])
        if kind == 'replaced':
            text = text[:at] + random.choice('ab+-. >^09A_~\n') + text[to:]
        elif kind == 'missing':
            text = text[:at] + text[to:]
        elif kind == 'doubled':
            text = text[:at] + text[at:to] * 2 + text[to:]
        else:
            parts = text.split(' ')
            place = random.randrange(len(parts))
            if kind == 'word':
                parts[place:place + random.choice((0, 1))] = [random.choice(
                    ['', '-', '.', '>', '^', '+a', '-b', 'a.b', '0', '1', '07', '12', 'never', parts[place]])]
            else:
                parts.append(parts.pop(place))
            text = ' '.join(parts)
    return text


class TestExamples(unittest.TestCase):
    def test_examples(self):
        self.assertEqual(parse_steps('+a -b'), [('push', 'a'), ('pop', 'b')])

    def test_as_the_point_says(self):
        self.assertEqual([format_word(word) for word in [(), ('a',), ('ab', 'c', 'ab')]], ['-', 'a', 'ab.c.ab'])
        self.assertEqual([format_steps(steps) for steps in [[], (), [('push', 'a')], (('pop', 'ab'), ('push', 'b'))]],
                         ['.', '.', '+a', '-ab +b'])
        self.assertEqual([format_effect(effect) for effect in [
            Effect.never(), Effect.nothing(), Effect(('a', 'b'), ('c',)), Effect((), ('c', 'd'), peak=12)]],
            ['never', '- > - ^ 0', 'a.b > c ^ 0', '- > c.d ^ 12'])


class TestBothWays(unittest.TestCase):
    def check(self, value, writes, reads, text=None):
        written = writes(value)
        self.assertIs(written.__class__, str)
        again = reads(written)
        self.assertEqual(again, list(value) if reads == parse_steps else value)
        self.assertEqual(writes(again), written)

    def test_words(self):
        random = Random(1)
        for word in words(['a', 'bc'], 5) + [drawn_word(random, ITEMS, range(9)) for case in range(200)]:
            self.check(word, format_word, parse_word)
        for word in [('abcdefgh',) * 2000, ('a',) * 5000]:
            self.check(word, format_word, parse_word)

    def test_sequences(self):
        random = Random(2)
        for steps in step_lists('ab', 3) + [drawn_sequence(random) for case in range(200)]:
            self.check(steps, format_steps, parse_steps)
            self.check(tuple(steps), format_steps, parse_steps)
        self.check([('push', 'abcdefgh')] * 1000, format_steps, parse_steps)

    def test_effects(self):
        random = Random(3)
        for effect in small_effects('ab', 2, 2) + [drawn_effect(random) for case in range(300)]:
            self.check(effect, format_effect, parse_effect)
        for steps in step_lists('ab', 4):
            self.check(effect_of(steps), format_effect, parse_effect)
        self.check(Effect(('abcdefgh',) * 1000, ('ab',) * 3000, peak=10 ** 39), format_effect, parse_effect)

    def test_different_values_have_different_texts(self):
        self.assertEqual(len({format_word(word) for word in words(['a', 'aa', 'b'], 4)}), len(words('abc', 4)))
        self.assertEqual(len({format_steps(steps) for steps in step_lists('ab', 3)}), len(step_lists('ab', 3)))
        self.assertEqual(len({format_effect(effect) for effect in small_effects('ab', 2, 2)}),
                         len(small_effects('ab', 2, 2)))


class TestChangedTexts(unittest.TestCase):
    def check(self, text, parse, expected):
        if expected:
            found = parse(text)
            self.assertEqual([found, found.__class__], [expected[0], expected[0].__class__], text)
        else:
            self.assertEqual(raised(lambda: parse(text)), (InvalidText, {'value': text}), text)

    def check_changes(self, draw, parse, read):
        random, seen = Random(4), [0, 0]
        for case in range(6000):
            text = draw(random)
            self.check(text, parse, read(text))
            text = changed(random, text)
            self.check(text, parse, read(text))
            seen[bool(read(text))] += 1
        self.assertGreater(min(seen), 300)

    def test_words(self):
        self.check_changes(lambda random: format_word(drawn_word(random, ITEMS, range(4))), parse_word, read_word)

    def test_sequences(self):
        self.check_changes(lambda random: format_steps(drawn_sequence(random)), parse_steps, read_steps)

    def test_effects(self):
        self.check_changes(lambda random: format_effect(drawn_effect(random)), parse_effect, read_effect)

    def test_texts_that_are_not_words(self):
        for text in ['', '.', '..', 'a.', '.a', 'a..b', 'a b', ' a', 'a ', '-a', 'a-', '--', '-.a', 'a.-', 'A', 'a1', 'a.B',
                     'abcdefghi', 'a.abcdefghi', '+a', 'a\n', '\n', '-\n', 'a,b', '- ', '0', 'a_b', '()', "('a',)"]:
            self.check(text, parse_word, [])

    def test_texts_that_are_not_sequences(self):
        for text in ['', ' ', '-', '+', '+ a', 'a', '+a  -b', ' +a', '+a ', '+a-b', '+a,-b', '++a', '--a', '+-a', '*a',
                     '+A', '+a1', '+abcdefghi', '+a .', '. +a', '..', '. .', '.\n', '+a\n', '+a\n-b', '+', '+a +', 'push a',
                     '+a.b', '- a', '+a -']:
            self.check(text, parse_steps, [])

    def test_texts_that_are_not_effects(self):
        for text in ['', 'Never', 'never ', ' never', 'nevernever', 'never never', '- > -', '- > - ^', '- > - ^ ', '-> - ^ 0',
                     '- >- ^ 0', '- > - ^0', '-  > - ^ 0', '- > - ^ 0 ', ' - > - ^ 0', '- > - > 0', '- ^ - > 0',
                     '- > - ^ 00', '- > - ^ 01', '- > - ^ 007', '- > - ^ +1', '- > - ^ -1', '- > - ^ 1.0', '- > - ^ 1_0',
                     '- > - ^ a', '- > - ^ -', '> - ^ 0', '- > ^ 0', '. > . ^ 0', 'a > b ^ 0 0', 'a > b ^ 0 ^ 0', 'never ^ 0',
                     'a. > b ^ 0', 'A > b ^ 0', 'a b > c ^ 0', '- > a ^ 0', 'a > b.c.d ^ 1', '- > - ^ 0\n', '- > - ^ 1e3',
                     'a < b ^ 0', 'a > b v 0', '- > - ^ 0x1']:
            self.check(text, parse_effect, [])
        for text in ['never > never ^ 0', '- > a ^ 1', 'a > b.c.d ^ 2', 'a > b.c.d ^ 3', 'a > - ^ 0', '- > - ^ 10']:
            self.check(text, parse_effect, read_effect(text))

    def test_too_many_steps(self):
        self.assertEqual(len(parse_steps(' '.join(['+a'] * 1000))), 1000)
        for sign in '+-':
            self.check(' '.join([sign + 'a'] * 1001), parse_steps, [])

    def test_long_peaks(self):
        self.assertEqual(parse_effect('- > - ^ ' + '9' * 40).peak, 10 ** 40 - 1)
        self.assertEqual(parse_effect('- > - ^ 1' + '0' * 39).peak, 10 ** 39)
        self.check('- > - ^ 0' + '9' * 39, parse_effect, [])
        for many in [17, 18, 19, 35, 36, 37, 40]:
            for number in [10 ** many - 1, 10 ** many, 10 ** many + 1, 7 * 10 ** many + 10 ** (many // 2)]:
                self.assertEqual(format_effect(Effect((), (), peak=number)), f'- > - ^ {number}')
                self.assertEqual(parse_effect(f'- > - ^ {number}').peak, number)

    def test_peaks_that_python_does_not_convert(self):
        text = '- > - ^ ' + '1234567890' * 1900
        effect = parse_effect(text)
        self.assertEqual(effect.peak % 10 ** 30, 123456789012345678901234567890)
        self.assertTrue(10 ** 18999 < effect.peak < 2 * 10 ** 18999)
        self.assertEqual(format_effect(effect), text)
        self.check('- > - ^ 0' + '1' * 5000, parse_effect, [])


class TestOtherValues(unittest.TestCase):
    def check(self, function, value):
        with self.subTest(shortened(value), function=function.__name__):
            error, attributes = raised(lambda: function(value))
            self.assertIs(error, InvalidText)
            self.assertEqual(list(attributes), ['value'])
            self.assertIs(attributes['value'], value)

    def test_values_that_are_no_strings(self):
        for value in NOT_STRINGS:
            for parse in (parse_word, parse_steps, parse_effect):
                self.check(parse, value)

    def test_what_is_no_word(self):
        for value in other_values() + NOT_WORDS:
            self.check(format_word, value)

    def test_what_is_no_sequence(self):
        steps = [('push', 'a')]
        for value in other_values() + ['', '+a', [None], steps + [None], [('push', 'A')], [('push',)], [('a', 'push')],
                                       [['push', 'a']], steps * 1001, tuple(steps) * 1001, ('push', 'a'),
                                       [('push', 'x', 'a')], [Odd()], {('push', 'a')}]:
            self.check(format_steps, value)

    def test_what_is_no_effect(self):
        values = [value for value in other_values() if not isinstance(value, Effect)]
        for value in values + [[], (), 'never', '- > - ^ 0', (('a',), ('b',)), [Effect.nothing()], (Effect.never(),)]:
            self.check(format_effect, value)


class TestCalls(unittest.TestCase):
    def test_by_name(self):
        self.assertEqual(format_word(word=('a',)), 'a')
        self.assertEqual(format_steps(steps=[('pop', 'a')]), '-a')
        self.assertEqual(format_effect(effect=Effect.never()), 'never')
        self.assertEqual(parse_word(text='a.b'), ('a', 'b'))
        self.assertEqual(parse_steps(text='.'), [])
        self.assertEqual(parse_effect(text='- > - ^ 3'), Effect((), (), peak=3))

    def test_arguments_do_not_change_and_results_are_new(self):
        steps = [('push', 'a'), ('pop', 'b')]
        format_steps(steps)
        self.assertEqual(steps, [('push', 'a'), ('pop', 'b')])
        for text in ('.', '+a -b'):
            before = parse_steps(text)
            before.append(None)
            self.assertEqual(parse_steps(text), before[:-1])


if __name__ == '__main__':
    unittest.main()
