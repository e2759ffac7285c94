"""Counts: how many sequences of a given length have a given effect."""

from stackeffect.integers import check_between, power

MOST_LENGTH = 200
MOST_KINDS = 50
MOST_PEAK = 200


def check_counts(length, kinds):
    """Raise InvalidNumber for the first of the two that is not valid."""
    check_between(length, 0, MOST_LENGTH)
    check_between(kinds, 1, MOST_KINDS)


def choose(many, chosen):
    """Return the number of ways to choose so many out of many."""
    ways = 1
    for at in range(chosen):
        ways = ways * (many - at) // (at + 1)
    return ways


def walks_between(length, lowest, highest, end):
    """Return the number of walks from 0 to the end, each step 1 up or down, that stay between two heights."""
    if lowest > 0 or not lowest <= end <= highest:
        return 0
    ways = [0] * (highest - lowest + 1)
    ways[-lowest] = 1
    for step in range(length):
        ways = [below + above for below, above in zip([0] + ways[:-1], ways[1:] + [0])]
    return ways[end - lowest]


def walks_many(effect, length, highest):
    """Return the number of ways in which the heights of the sequences with this effect can change up to a height."""
    lowest = -len(effect.pops)
    # These walks reach the lowest height, so those that stay above it do not count.
    return (walks_between(length, lowest, highest, effect.change)
            - walks_between(length, lowest + 1, highest, effect.change))


def successes_many(length, kinds):
    """Return the number of sequences that succeed on some stack."""
    # By the number of pushed items that are there: a pop must name the last one, or if there is none, any item.
    ways = [1] + [0] * (length + 1)
    for step in range(length):
        after_pop = [kinds * ways[0] + ways[1]] + ways[2:] + [0]
        after_push = [0] + [kinds * many for many in ways[:-1]]
        ways = [some + others for some, others in zip(after_pop, after_push)]
    return sum(ways)


def with_effect(effect, length, kinds, *, peak=None):
    """Return the number of sequences with the pops and pushes of the effect, and with at most the peak if it is given.

    For never: the number of sequences that never succeed.
    """
    check_counts(length, kinds)
    if peak is not None:
        check_between(peak, 0, MOST_PEAK)
    if effect.is_never:
        return power(2 * kinds, length) - successes_many(length, kinds)
    used = effect.pops + effect.pushes
    pairs, odd = divmod(length - len(used), 2)
    if pairs < 0 or odd or len(set(used)) > kinds:
        return 0
    if peak is None:
        walks = (len(used) + 1) * choose(length + 1, pairs) // (length + 1)
    else:
        walks = walks_many(effect, length, peak)
    # Each of the pairs is a push and the pop of its item, which is free.
    return walks * power(kinds, pairs)


def effects_many(length, kinds):
    """Return the number of different pairs of pops and pushes of the sequences of this length."""
    check_counts(length, kinds)
    # Pops and pushes together have as many items as steps are left without pairs of a push and its pop.
    return sum([(many + 1) * power(kinds, many) for many in range(length, -1, -2)])
