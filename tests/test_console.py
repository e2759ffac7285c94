"""Point [17], the console: commands beside the functions that they use."""

import re
import unittest
from random import Random
from reprlib import repr as shortened

from stackeffect.console import Console
from stackeffect.differences import commute, difference
from stackeffect.effects import Effect, effect_of
from stackeffect.errors import InvalidBlocks, InvalidCommand, InvalidNumber, InvalidWord, LimitExceeded, UnknownName
from stackeffect.powers import Power
from stackeffect.reach import least_blocks
from tests.helpers import Odd, other_values, raised, result

NAME = '[a-z]{1,8}'
WORD = rf'(?:-|{NAME}(?:\.{NAME})*)'
STEPS = rf'(?:\.|[+-]{NAME}(?: [+-]{NAME}){{0,999}})'
LINES = [re.compile(pattern) for pattern in [
    rf'define {NAME} {STEPS}', rf'drop {NAME}', 'names', rf'show {NAME}', rf'apply {NAME} {WORD}',
    rf'join {NAME}(?: {NAME})+', rf'reverse {NAME}', rf'(?:same|commute) {NAME} {NAME}',
    rf'power {NAME} (?:0|[1-9][0-9]*)', rf'reach {WORD} {WORD}(?: {NAME}){{1,8}}']]
NAMES = ['a', 'b', 'names', 'never', 'abcdefgh', 'z']
TWENTY = [first + second for first in 'abcd' for second in 'vwxyz']


def is_line(line):
    return any(pattern.fullmatch(line) for pattern in LINES)


def written(word):
    return '.'.join(word) if word else '-'


def written_effect(effect):
    return 'never' if effect.is_never else f'{written(effect.pops)} > {written(effect.pushes)} ^ {effect.peak}'


def read_word(text):
    return () if text == '-' else tuple(text.split('.'))


def read_steps(text):
    return [({'+': 'push', '-': 'pop'}[part[0]], part[1:]) for part in text.split(' ') if part != '.']


class Model:
    """What a console has to answer: a string, or the class and the attributes of an error."""

    def __init__(self):
        self.steps = {}

    def effect(self, name):
        return effect_of(self.steps[name])

    def answer(self, line):
        if not is_line(line):
            return InvalidCommand, {'line': line}
        command, *parts = line.split(' ')
        if command == 'define':
            return self.define(parts[0], ' '.join(parts[1:]))
        names = {'apply': parts[:1], 'power': parts[:1], 'reach': parts[2:]}.get(command, parts)
        unknown = [name for name in names if name not in self.steps]
        if unknown:
            return UnknownName, {'name': unknown[0]}
        return getattr(self, command)(parts)

    def define(self, name, text):
        if name not in self.steps and len(self.steps) == 20:
            return LimitExceeded, {'limit': 20}
        self.steps[name] = read_steps(text)
        return written_effect(self.effect(name))

    def drop(self, parts):
        del self.steps[parts[0]]
        return 'ok'

    def names(self, parts):
        return ' '.join(sorted(self.steps)) or '-'

    def show(self, parts):
        return written_effect(self.effect(parts[0]))

    def apply(self, parts):
        after = result(self.steps[parts[0]], read_word(parts[1]), None)
        return '!' if after is None else written(after)

    def join(self, parts):
        return written_effect(effect_of([step for name in parts for step in self.steps[name]]))

    def reverse(self, parts):
        opposite = {'push': 'pop', 'pop': 'push'}
        return written_effect(effect_of([(opposite[action], item) for action, item in self.steps[parts[0]][::-1]]))

    def same(self, parts):
        found = difference(*(self.effect(name) for name in parts))
        return '=' if found is None else written(found)

    def commute(self, parts):
        found = commute(*(self.effect(name) for name in parts))
        return '=' if found is None else written(found)

    def power(self, parts):
        effect, exponent = self.effect(parts[0]), int(parts[1])
        if exponent > 10 ** 30:
            return InvalidNumber, {'value': exponent}
        power = Power(effect, exponent)
        if not power.is_never and max(power.pops_length, power.pushes_length) > 1000:
            return f'{power.pops_length} {power.pushes_length} {power.peak}'
        return written_effect(power.effect())

    def reach(self, parts):
        blocks = {name: self.effect(name) for name in parts[2:]}
        for effect in blocks.values():
            if not effect.is_never and max(len(effect.pops), len(effect.pushes)) > 8:
                return InvalidBlocks, {'value': blocks}
        for word in map(read_word, parts[:2]):
            if len(word) > 30:
                return InvalidWord, {'value': word}
        least = least_blocks(blocks, *map(read_word, parts[:2]))
        return 'no' if least is None else str(least)


def answer(console, line):
    """The string that the console returns, or the class and the attributes of the error that it raises."""
    found = []
    error = raised(lambda: found.append(console.run(line)))
    return error if error else found[0]


def drawn_text(random, most=4):
    steps = [random.choice('+-') + random.choice(['a', 'b', 'a', 'b', 'push']) for at in range(random.randrange(most + 1))]
    return ' '.join(steps) or '.'


def drawn_word(random, most=4):
    return written([random.choice(['a', 'b', 'a', 'b', 'push']) for at in range(random.randrange(most + 1))])


def drawn_line(random, names):
    name, other = random.choice(names), random.choice(names)
    several = [random.choice(names) for at in range(random.randrange(1, 9))]
    return random.choice([
        f'define {name} {drawn_text(random)}', f'define {name} {drawn_text(random, 12)}', f'define {name} .',
        f'define {name} {" ".join(["+a"] * random.choice((8, 9)))}',
        f'drop {name}', 'names', f'show {name}', f'apply {name} {drawn_word(random)}', f'join {name} {other}',
        f'join {" ".join([name, *several])}', f'reverse {name}', f'same {name} {other}', f'commute {name} {other}',
        f'power {name} {random.choice([0, 1, 2, 3, 1000, 10 ** 30, 10 ** 30 + 1])}',
        f'reach {drawn_word(random)} {drawn_word(random)} {" ".join(several)}',
        f'reach {drawn_word(random, 34)} {drawn_word(random, 34)} {" ".join(several)}'])


def changed(random, line):
    """The line with characters or words replaced, missing, doubled or added."""
    parts = line.split(' ')
    place = random.randrange(len(parts))
    kind = random.randrange(6)
    if kind == 0:
        del parts[place]
    elif kind == 1:
        parts.insert(place, random.choice(['', 'a', '-', '.', '0', '01', '7', 'A', '+a', 'names', parts[place]]))
    elif kind == 2:
        parts[place] = random.choice(['', 'a', '-', '.', '0', '01', '7', 'A', '+a', 'abcdefghi', 'a.b', 'show', 'Show'])
    text = ' '.join(parts)
    at = random.randrange(len(text) + 1)
    if kind == 3:
        text = text[:at] + text[at + 1:]
    elif kind == 4:
        text = text[:at] + random.choice(' .-+0a\nZ') + text[at:]
    elif kind == 5:
        text = text[:at] + random.choice(' .-+0a\nZ') + text[at + 1:]
    return text


class TestExamples(unittest.TestCase):
    def test_examples(self):
        console = Console()
        self.assertEqual(console.run('define x -a +b +c'), 'a > c.b ^ 1')
        self.assertEqual(console.run('apply x a.z'), 'c.b.z')
        self.assertEqual(console.run('reach a c.b x'), '1')


class TestBesideTheFunctions(unittest.TestCase):
    def check_lines(self, random, names, many, change):
        console, model, kinds = Console(), Model(), set()
        for at in range(many):
            line = drawn_line(random, names)
            if random.random() < change:
                line = changed(random, line)
            expected = model.answer(line)
            self.assertEqual(answer(console, line), expected, line)
            self.assertEqual(len(console), len(model.steps))
            kinds.add((line.split(' ')[0], expected[0] if isinstance(expected, tuple) else None))
        return kinds

    def test_drawn_lines(self):
        kinds = set()
        for seed in range(25):
            kinds |= self.check_lines(Random(seed), NAMES, 200, 0)
        for command in ['drop', 'show', 'apply', 'join', 'reverse', 'same', 'commute', 'power', 'reach']:
            self.assertTrue({(command, None), (command, UnknownName)} <= kinds)
        self.assertTrue({('names', None), ('power', InvalidNumber), ('reach', InvalidWord), ('reach', InvalidBlocks),
                         ('define', None)} <= kinds)

    def test_changed_lines(self):
        for seed in range(25):
            kinds = self.check_lines(Random(100 + seed), NAMES, 200, 0.5)
            self.assertIn(InvalidCommand, [error for command, error in kinds])

    def test_twenty_names(self):
        kinds = set()
        for seed in range(10):
            kinds |= self.check_lines(Random(200 + seed), TWENTY + NAMES, 400, 0.02)
        self.assertIn(('define', LimitExceeded), kinds)


class TestNames(unittest.TestCase):
    def test_at_most_twenty(self):
        console = Console()
        self.assertEqual((console.run('names'), len(console)), ('-', 0))
        for many, name in enumerate(TWENTY[::-1], 1):
            console.run(f'define {name} +a')
            self.assertEqual(len(console), many)
        self.assertEqual(console.run('names'), ' '.join(TWENTY))
        for line in ['define new +a', 'define new .', 'define zz -a +b']:
            self.assertEqual(answer(console, line), (LimitExceeded, {'limit': 20}))
        self.assertEqual(console.run('names'), ' '.join(TWENTY))
        self.assertEqual(answer(console, 'show new'), (UnknownName, {'name': 'new'}))
        self.assertEqual(answer(console, 'define new +a +'), (InvalidCommand, {'line': 'define new +a +'}))
        self.assertEqual(console.run(f'define {TWENTY[3]} -b'), 'b > - ^ 0')
        self.assertEqual(len(console), 20)
        self.assertEqual(console.run(f'drop {TWENTY[0]}'), 'ok')
        self.assertEqual(len(console), 19)
        self.assertEqual(console.run('define new +a'), '- > a ^ 1')
        self.assertEqual(answer(console, f'define {TWENTY[0]} +a'), (LimitExceeded, {'limit': 20}))
        self.assertEqual(console.run('names'), ' '.join(sorted(TWENTY[1:] + ['new'])))

    def test_defined_anew(self):
        console = Console()
        console.run('define x +a')
        self.assertEqual(console.run('define x -a'), 'a > - ^ 0')
        self.assertEqual((console.run('show x'), len(console)), ('a > - ^ 0', 1))
        self.assertEqual(console.run('drop x'), 'ok')
        self.assertEqual(answer(console, 'drop x'), (UnknownName, {'name': 'x'}))
        self.assertEqual((console.run('names'), len(console)), ('-', 0))

    def test_the_first_name_that_is_not_stored(self):
        console = Console()
        console.run('define x +a')
        for line, name in [('drop y', 'y'), ('show y', 'y'), ('apply y -', 'y'), ('join x y', 'y'), ('join z y', 'z'),
                           ('join x x x q p', 'q'), ('reverse y', 'y'), ('same x y', 'y'), ('same y x', 'y'),
                           ('same z y', 'z'), ('commute y z', 'y'), ('power y 2', 'y'), (f'power y {10 ** 31}', 'y'),
                           ('reach a b y', 'y'), ('reach a b x z y', 'z'), ('reach y z x w', 'w'),
                           (f'reach {written(["a"] * 31)} - x y', 'y'), ('show define', 'define')]:
            self.assertEqual(answer(console, line), (UnknownName, {'name': name}), line)
        self.assertEqual((console.run('names'), console.run('show x')), ('x', '- > a ^ 1'))

    def test_consoles_are_independent(self):
        one, other = Console(), Console()
        one.run('define x +a')
        self.assertEqual((other.run('names'), len(other)), ('-', 0))
        self.assertFalse(one == other)
        self.assertTrue(one == one)


class TestAnswers(unittest.TestCase):
    def setUp(self):
        self.console = Console()
        for line in ['define in +a', 'define out -a', 'define no +a -b', 'define swap -a -b +a +b', 'define nil .',
                     'define grow -a +b +a', 'define high +a +a -a -a']:
            self.console.run(line)

    def check(self, *pairs):
        for line, expected in pairs:
            self.assertEqual(answer(self.console, line), expected, line)

    def test_effects(self):
        self.check(('show no', 'never'), ('show nil', '- > - ^ 0'), ('show high', '- > - ^ 2'), ('join in out', '- > - ^ 1'),
                   ('join out in', 'a > a ^ 0'), ('join in no', 'never'), ('join in in in in', '- > a.a.a.a ^ 4'),
                   ('reverse in', 'a > - ^ 0'), ('reverse no', 'never'), ('reverse grow', 'a.b > a ^ 0'),
                   ('reverse high', '- > - ^ 2'), ('define new +b -b', '- > - ^ 1'))

    def test_stacks(self):
        self.check(('apply in -', 'a'), ('apply out a', '-'), ('apply out -', '!'), ('apply out b', '!'),
                   ('apply no -', '!'), ('apply nil -', '-'), ('apply swap a.b.c', 'b.a.c'), ('apply nil ab.c', 'ab.c'),
                   ('same in in', '='), ('same nil high', '='), ('same in out', '-'), ('same out no', 'a'),
                   ('same no no', '='), ('commute in out', '-'), ('commute in nil', '='), ('commute swap out', 'a.a.b'))

    def test_powers(self):
        self.check(('power in 0', '- > - ^ 0'), ('power in 1', '- > a ^ 1'), ('power in 3', '- > a.a.a ^ 3'),
                   ('power no 0', '- > - ^ 0'), ('power no 1', 'never'), (f'power no {10 ** 30}', 'never'),
                   ('power swap 2', 'never'), (f'power swap {10 ** 30}', 'never'), ('power high 1000000', '- > - ^ 2'),
                   ('power in 1000', '- > ' + '.'.join(['a'] * 1000) + ' ^ 1000'), ('power in 1001', '0 1001 1001'),
                   ('power out 1000', '.'.join(['a'] * 1000) + ' > - ^ 0'), ('power out 1001', '1001 0 0'),
                   (f'power grow {10 ** 30}', f'1 {10 ** 30 + 1} {10 ** 30}'), ('power grow 999', '.'.join(
                       ['a > a'] + ['b'] * 999) + ' ^ 999'), ('power grow 1000', '1 1001 1000'),
                   (f'power in {10 ** 30 + 1}', (InvalidNumber, {'value': 10 ** 30 + 1})))

    def test_reach(self):
        self.check(('reach - a.a in', '2'), ('reach a - in', 'no'), ('reach - - no', '0'), ('reach - a no', 'no'),
                   ('reach a.b b.a swap', '1'), ('reach a a.b.b grow', '2'), ('reach - b grow in out', '3'),
                   ('reach - a.b.b grow in out', '3'), ('reach - b.b grow in out', '4'),
                   ('reach - a in in in in in in in in', '1'))
        thirty = written(['a'] * 30)
        self.check((f'reach {thirty} - out', '30'), (f'reach {thirty}.a - out', (InvalidWord, {'value': ('a',) * 31})),
                   (f'reach - {thirty}.a in', (InvalidWord, {'value': ('a',) * 31})))
        self.console.run('define big ' + ' '.join(['+a'] * 9))
        self.console.run('define most ' + ' '.join(['+a'] * 8))
        blocks = {'in': Effect((), ('a',)), 'big': Effect((), ('a',) * 9)}
        self.check(('reach - a.a most in', '2'), (f'reach {thirty}.a - in big', (InvalidBlocks, {'value': blocks})))

    def test_a_large_least_number(self):
        console = Console()
        kinds = 'abcdefgh'
        for at in range(7):
            console.run(f'define {kinds[at]} -{kinds[at]} ' + ' '.join([f'+{kinds[at + 1]}'] * 7))
        console.run('define h -h')
        self.assertEqual(console.run('reach a - a b c d e f g h'), str((7 ** 8 - 1) // 6))

    def test_the_largest_sequences(self):
        console = Console()
        text = ' '.join(['+abcdefgh'] * 1000)
        self.assertEqual(console.run(f'define x {text}'), '- > ' + '.'.join(['abcdefgh'] * 1000) + ' ^ 1000')
        line = f'define y {text} +a'
        self.assertEqual(answer(console, line), (InvalidCommand, {'line': line}))
        self.assertEqual(len(console.run('join x x').split('.')), 2000)
        self.assertEqual(console.run('power x 2'), '0 2000 2000')


class TestInvalidCommands(unittest.TestCase):
    def test_other_lines(self):
        console = Console()
        console.run('define x +a')
        for line in ['', ' ', 'x', 'Names', 'names ', ' names', 'names x', 'names -', 'define', 'define x', 'define x ',
                     'define x  +a', 'define  x +a', 'define x +a ', 'define x +a  +b', 'define X +a', 'define +a',
                     'define x a', 'define x ..', 'define x . .', 'define x -', 'define x . +a', 'define abcdefghi +a',
                     'define x +A', 'define x y +a', 'drop', 'drop x x', 'drop X', 'drop ', 'show', 'show x x', 'show -',
                     'show  x', 'show x ', 'apply', 'apply x', 'apply x ', 'apply x a b', 'apply x .', 'apply x a.',
                     'apply x A', 'apply a.b x y', 'apply - x', 'join', 'join x', 'join x ', 'join x  x', 'join x -',
                     'join x a.b', 'reverse', 'reverse x x', 'reverse -', 'same', 'same x', 'same x x x', 'same x -',
                     'commute x', 'commute x x x', 'power', 'power x', 'power x x', 'power x 01', 'power x 00',
                     'power x +1', 'power x -1', 'power x 1.', 'power x 1 1', 'power x 1_0', 'power 1 x', 'power x ',
                     'reach', 'reach a', 'reach a b', 'reach a b ', 'reach a  b x', 'reach a b -', 'reach a. b x',
                     'reach a b. x', 'reach a b x x x x x x x x x', 'reach a b a.b', 'help', 'exit', 'names\n',
                     'names\nnames', 'show x\n', 'SHOW x', 'show\tx', 'never', '- > - ^ 0', '+a', '.', '-']:
            self.assertFalse(is_line(line), line)
            self.assertEqual(answer(console, line), (InvalidCommand, {'line': line}), line)
            self.assertEqual((console.run('names'), console.run('show x'), len(console)), ('x', '- > a ^ 1', 1))

    def test_the_line_comes_before_the_names(self):
        console = Console()
        for line in ['join y', 'power y 01', 'apply y A', 'reach A a y', 'same y', 'reach a a ' + ' '.join(['y'] * 9)]:
            self.assertEqual(answer(console, line), (InvalidCommand, {'line': line}))

    def test_values_of_other_kinds(self):
        console = Console()
        console.run('define x +a')
        for value in other_values() + [[], ['names'], ('names',), ('show', 'x'), b'names', ['show', 'x']]:
            with self.subTest(shortened(value)):
                error, attributes = raised(lambda: console.run(value))
                self.assertIs(error, InvalidCommand)
                self.assertEqual(list(attributes), ['line'])
                self.assertIs(attributes['line'], value)
        self.assertEqual(console.run('show x'), '- > a ^ 1')


class TestCalls(unittest.TestCase):
    def test_by_name(self):
        self.assertEqual(Console().run(line='names'), '-')

    def test_methods(self):
        for name in ('run', '__len__'):
            self.assertIn(name, vars(Console))
        self.assertIs(raised(lambda: Console(1))[0], TypeError)
        self.assertIs(raised(lambda: Console().run(Odd()))[0], InvalidCommand)


if __name__ == '__main__':
    unittest.main()
