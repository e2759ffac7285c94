"""Effects: what a sequence does to every stack."""

from stackeffect.errors import InvalidNumber
from stackeffect.integers import is_whole
from stackeffect.words import check_limit, check_steps, check_word, is_too_high


def least_peak(pops, pushes):
    """Return the least peak of the sequences with these pops and pushes."""
    return max(0, len(pushes) - len(pops))


class Effect:
    """What a sequence does to every stack; it never changes.

    The items that it needs and those that it leaves are words; for never they and the peak are None.
    """

    def __init__(self, pops, pushes, *, peak=None):
        check_word(pops)
        check_word(pushes)
        least = least_peak(pops, pushes)
        if peak is not None and (not is_whole(peak) or peak < least):
            raise InvalidNumber(peak)
        self.needs = pops
        self.leaves = pushes
        self.highest = least if peak is None else peak

    @staticmethod
    def of(*steps):
        """Return the effect of the sequence of these steps."""
        return effect_of(steps)

    @classmethod
    def never(cls):
        """Return the effect of the sequences that fail on every stack."""
        effect = cls((), ())
        effect.needs = None
        effect.leaves = None
        effect.highest = None
        return effect

    @classmethod
    def nothing(cls):
        """Return the effect of the empty sequence."""
        return cls((), ())

    @property
    def pops(self):
        """The items with which a stack must begin, or None for never."""
        return self.needs

    @property
    def pushes(self):
        """The items that take the place of the pops, or None for never."""
        return self.leaves

    @property
    def peak(self):
        """The greatest height, relative to the height at the beginning, or None for never."""
        return self.highest

    @property
    def change(self):
        """The height at the end, relative to the height at the beginning, or None for never."""
        return None if self.needs is None else len(self.leaves) - len(self.needs)

    @property
    def is_never(self):
        """Whether the sequence fails on every stack."""
        return self.needs is None

    @property
    def is_neutral(self):
        """Whether the sequence leaves each stack on which it succeeds as it was."""
        return self.needs is not None and self.needs == self.leaves

    def then(self, *others):
        """Return the effect of this effect followed by the others in order."""
        effects = [self, *others]
        if any([effect.is_never for effect in effects]):
            return Effect.never()
        return joined([(effect.pops, effect.pushes, effect.peak) for effect in effects])

    def reversal(self):
        """Return the effect of the reversed sequences."""
        if self.is_never:
            return Effect.never()
        return Effect(self.pushes, self.pops, peak=self.peak - self.change)

    def apply(self, stack, *, limit=None):
        """Return the stack that the effect makes of a stack, or None if it fails."""
        check_word(stack)
        check_limit(limit)
        if self.is_never or is_too_high(len(stack) + self.peak, limit):
            return None
        return replaced(self, stack)

    def __eq__(self, other):
        return (isinstance(other, Effect) and self.needs == other.needs
                and self.leaves == other.leaves and self.highest == other.highest)

    def __repr__(self):
        if self.needs is None:
            return "Effect.never()"
        return f"Effect({self.needs!r}, {self.leaves!r}, peak={self.highest!r})"


def replaced(effect, stack):
    """Return what an effect makes of a stack without a limit, or None if it fails."""
    if effect.is_never:
        return None
    depth = len(effect.pops)
    return effect.pushes + stack[depth:] if stack[:depth] == effect.pops else None


def joined(parts):
    """Return the effect of tuples (pops, pushes, peak) one after the other."""
    pops, pushes, peak = (), (), 0
    for needed, left, highest in parts:
        shared = min(len(pushes), len(needed))
        if pushes[:shared] != needed[:shared]:
            return Effect.never()
        peak = max(peak, len(pushes) - len(pops) + highest)
        pops = pops + needed[shared:]
        pushes = left + pushes[shared:]
    return Effect(pops, pushes, peak=peak)


def parts_of_step(step):
    """Return the pops, the pushes and the peak of one step."""
    action, item = step
    return ((), (item,), 1) if action == "push" else ((item,), (), 0)


def effect_of(steps):
    """Return the effect of a sequence."""
    check_steps(steps)
    return joined([parts_of_step(step) for step in steps])
