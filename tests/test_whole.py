"""Points [2] and [4]: what holds over the whole program."""

import unittest
from random import Random

from stackeffect.differences import difference
from stackeffect.effects import Effect, effect_of
from stackeffect.powers import Power
from stackeffect.reach import check, is_reachable, least_blocks, reach, route
from stackeffect.several import effects_of, run_all
from stackeffect.shortest import shortest
from stackeffect.tables import accepts, stacks
from stackeffect.wanted import combination, refutation
from stackeffect.words import reverse, run
from tests.helpers import drawn_word, result, words


def drawn_steps(random, items, many):
    """Steps that often pop what is on top."""
    steps, top = [], []
    for at in range(many):
        if top and random.random() < 0.5:
            steps.append(('pop', top.pop() if random.random() < 0.9 else random.choice(items)))
        elif random.random() < 0.3:
            steps.append(('pop', random.choice(items)))
        else:
            top.append(random.choice(items))
            steps.append(('push', top[-1]))
    return steps


class TestOneEffectSeenByAllParts(unittest.TestCase):
    def cases(self, seed):
        random = Random(seed)
        for case in range(250):
            yield random, drawn_steps(random, 'ab', random.randrange(13))

    def test_a_sequence_and_what_has_its_effect(self):
        for random, steps in self.cases(1):
            effect = effect_of(steps)
            others = [effect_of(shortest(effect)), Power(effect, 1).effect(), effect.reversal().reversal(),
                      effect_of(reverse(reverse(steps))), effect_of(reverse(steps)).reversal(), Effect.of(*steps),
                      effect.then(), effect.then(Effect.nothing()), Effect.nothing().then(effect)]
            self.assertEqual(others, [effect] * len(others))
            self.assertEqual([difference(effect, other) for other in others], [None] * len(others))
            for stack in words('ab', 4):
                for limit in (None, 0, 2, 4, 6):
                    expected = result(steps, stack, limit)
                    self.assertEqual(run(steps, stack, limit=limit), expected)
                    self.assertEqual(effect.apply(stack, limit=limit), expected)
                    self.assertEqual(run(shortest(effect), stack, limit=limit), expected)

    def test_the_one_block_with_this_effect(self):
        for random, steps in self.cases(2):
            effect = effect_of(steps)
            blocks = {'block': effect}
            if effect.is_never:
                self.assertEqual(list(stacks(reach(blocks, ('a', 'b')))), [('a', 'b')])
                continue
            for below in [(), drawn_word(random, 'ab', range(4))]:
                start = effect.pops + below
                table = reach(blocks, start)
                stack, many, seen = start, 0, []
                while stack is not None and len(stack) <= 30 and many < 6 and stack not in seen:
                    seen.append(stack)
                    self.assertIs(accepts(table, stack), True)
                    self.assertEqual(least_blocks(blocks, start, stack), many)
                    self.assertEqual(route(blocks, start, stack), ['block'] * many)
                    power = Power(effect, many)
                    self.assertEqual(power.effect().apply(start), stack)
                    stack, many = result(steps, stack, None), many + 1
                self.assertIs(check(blocks, start, table), True)
                self.assertIs(is_reachable(blocks, start, effect.pushes + below), True)

    def test_a_combination_of_this_one_block(self):
        for random, steps in self.cases(3):
            effect = effect_of(steps)
            if effect.is_never:
                self.assertIsNone(combination({'block': effect}, Effect((), ('a',))))
                continue
            self.assertEqual(combination({'block': effect}, effect), [] if effect.is_neutral else ['block'])
            self.assertIsNone(refutation({'block': effect}, effect))
            twice = Power(effect, 2)
            if not twice.is_never and not effect.is_neutral:
                self.assertEqual(combination({'block': effect}, twice.effect()), ['block'] * 2)

    def test_single_steps_as_blocks(self):
        blocks = {'ina': Effect((), ('a',)), 'inb': Effect((), ('b',)), 'outa': Effect(('a',), ()),
                  'outb': Effect(('b',), ())}
        for random, steps in self.cases(4):
            effect = effect_of(steps)
            if not effect.is_never:
                lowest = Effect(effect.pops, effect.pushes)
                shared = 0
                while effect.pops[::-1][shared:shared + 1] == effect.pushes[::-1][shared:shared + 1] != ():
                    shared += 1
                names = combination(blocks, effect)
                self.assertEqual(len(names), len(shortest(lowest)) - 2 * shared)
                self.assertEqual(len(names), least_blocks(blocks, effect.pops, effect.pushes))

    def test_a_sequence_on_one_of_several_stacks(self):
        for random, steps in self.cases(5):
            effect = effect_of(steps)
            named = [(action, 'x', item) for action, item in steps]
            self.assertEqual(effects_of(named), None if effect.is_never else {'x': effect} if steps else {})
            for stack in words('ab', 3):
                expected = effect.apply(stack)
                self.assertEqual(run_all(named, {'x': stack}), None if expected is None else {'x': expected})


if __name__ == '__main__':
    unittest.main()
