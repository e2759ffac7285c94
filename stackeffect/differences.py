"""Differences: the first stack on which two effects have different results."""

from stackeffect.words import FIRST_ITEM, check_limit


def by_height(stack):
    """Return the key by which stacks are ordered."""
    return len(stack), stack


def first_success(effect, limit):
    """Return the first stack on which the effect succeeds, or None."""
    if effect.is_never or effect.apply(effect.pops, limit=limit) is None:
        return None
    return effect.pops


def first_beyond(one, other, limit):
    """Return the first stack that is too high for only one of two effects that differ at most in their peaks."""
    if limit is None or one.peak == other.peak:
        return None
    height = limit - max(one.peak, other.peak) + 1
    return one.pops + (FIRST_ITEM,) * (height - len(one.pops))


def difference(one, other, *, limit=None):
    """Return the first stack on which the two effects have different results, or None."""
    check_limit(limit)
    firsts = [first_success(one, limit), first_success(other, limit)]
    if None not in firsts and one.pops == other.pops and one.pushes == other.pushes:
        return first_beyond(one, other, limit)
    # Otherwise only one of them succeeds on the first of these stacks, or both do with different pushes.
    return min([stack for stack in firsts if stack is not None], key=by_height, default=None)


def commute(one, other, *, limit=None):
    """Return the first stack on which the two orders of the effects have different results, or None."""
    return difference(one.then(other), other.then(one), limit=limit)
