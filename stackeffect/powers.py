"""Powers: the effects of many repetitions, and roots.

The words of a power may be too long to write out. Each is kept as a tuple (word, more, times): the word, followed by
so many times more.
"""

from stackeffect.effects import Effect
from stackeffect.errors import LimitExceeded
from stackeffect.integers import check_between

MOST_WRITTEN = 1000


def shared_word(effect):
    """Return the shorter one of pops and pushes if the longer one begins with it, otherwise None."""
    shared = min(len(effect.pops), len(effect.pushes))
    return effect.pops[:shared] if effect.pops[:shared] == effect.pushes[:shared] else None


def repeated_words(effect, exponent):
    """Return the pops and the pushes of a power, or None and None if it is never."""
    if exponent == 0:
        return ((), (), 0), ((), (), 0)
    if effect.is_never:
        return None, None
    if exponent == 1:
        return (effect.pops, (), 0), (effect.pushes, (), 0)
    word = shared_word(effect)
    if word is None:
        return None, None
    return (word, effect.pops[len(word):], exponent), (word, effect.pushes[len(word):], exponent)


def repeated_peak(effect, exponent):
    """Return the peak of a power that is not never."""
    return 0 if exponent == 0 else effect.peak + max(0, effect.change) * (exponent - 1)


def length_of(repeated):
    """Return the number of items of a word of a power."""
    word, more, times = repeated
    return len(word) + len(more) * times


def item_at(repeated, index):
    """Return the item of a word of a power at an index; None stands for the words of never."""
    check_between(index, 0, -1 if repeated is None else length_of(repeated) - 1)
    word, more, times = repeated
    return word[index] if index < len(word) else more[(index - len(word)) % len(more)]


def written_out(repeated):
    """Return a word of a power as a tuple of items."""
    length = length_of(repeated)
    if length > MOST_WRITTEN:
        raise LimitExceeded(MOST_WRITTEN)
    return tuple([item_at(repeated, index) for index in range(length)])


class Power:
    """The effect of a number of repetitions of an effect, however large the number is."""

    # Ten to the power of thirty.
    MOST = 1000000000000000000000000000000

    def __init__(self, effect, exponent):
        check_between(exponent, 0, Power.MOST)
        self.needs, self.leaves = repeated_words(effect, exponent)
        self.highest = None if self.needs is None else repeated_peak(effect, exponent)

    @property
    def is_never(self):
        """Whether the repetitions fail on every stack."""
        return self.needs is None

    @property
    def pops_length(self):
        """The number of items of the pops, or None for never."""
        return None if self.needs is None else length_of(self.needs)

    @property
    def pushes_length(self):
        """The number of items of the pushes, or None for never."""
        return None if self.leaves is None else length_of(self.leaves)

    @property
    def peak(self):
        """The greatest height, relative to the height at the beginning, or None for never."""
        return self.highest

    def popped(self, index):
        """Return the item of the pops at an index."""
        return item_at(self.needs, index)

    def pushed(self, index):
        """Return the item of the pushes at an index."""
        return item_at(self.leaves, index)

    def effect(self):
        """Return the power as an effect, if its words are short enough."""
        if self.is_never:
            return Effect.never()
        return Effect(written_out(self.needs), written_out(self.leaves), peak=self.highest)


def roots(effect):
    """Return the list of tuples (exponent, root) for all exponents from 2 on, or None if there are infinitely many."""
    if effect.is_never or effect.is_neutral:
        return None
    word = shared_word(effect)
    if word is None:
        return []
    # One of the two words goes on behind the shared one, and the other ends there.
    rest = effect.pops[len(word):] + effect.pushes[len(word):]
    found = []
    for exponent in range(2, len(rest) + 1):
        size = len(rest) // exponent
        if size * exponent == len(rest) and rest[:size] * exponent == rest:
            end = len(word) + size
            found.append((exponent, Effect(effect.pops[:end], effect.pushes[:end])))
    return found
