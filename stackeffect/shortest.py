"""Shortest sequences with a given effect, and their number."""

from stackeffect.effects import least_peak
from stackeffect.errors import InvalidItems
from stackeffect.integers import power
from stackeffect.words import FIRST_ITEM, is_item

OTHER_ITEM = "b"
MOST_ITEMS = 50


def is_item_list(value):
    """Return whether any value is a list or tuple of distinct items, and not of too many."""
    if not isinstance(value, (list, tuple)) or len(value) > MOST_ITEMS:
        return False
    return all([is_item(item) for item in value]) and len(set(value)) == len(value)


def check_items(items):
    """Raise InvalidItems unless the value is a list or tuple of distinct items, and not of too many."""
    if not is_item_list(items):
        raise InvalidItems(items)


def surplus(effect):
    """Return how far the peak of an effect other than never is above the least one."""
    return effect.peak - least_peak(effect.pops, effect.pushes)


def shortest(effect):
    """Return a shortest list of steps with exactly this effect."""
    if effect.is_never:
        return [("push", FIRST_ITEM), ("pop", OTHER_ITEM)]
    many = surplus(effect)
    rise = [("push", FIRST_ITEM)] * many + [("pop", FIRST_ITEM)] * many
    exchange = [("pop", item) for item in effect.pops] + [("push", item) for item in effect.pushes[::-1]]
    # The way up to the peak and back is shortest from the higher end.
    return exchange + rise if effect.change > 0 else rise + exchange


def shortest_length(effect):
    """Return the length of the shortest sequences with exactly this effect."""
    if effect.is_never:
        return 2
    return len(effect.pops) + len(effect.pushes) + 2 * surplus(effect)


def ways_many(effect):
    """Return the number of ways in which the heights of the shortest sequences can change."""
    # Between equal ends the peak may come before the lowest height or after it.
    return 2 if effect.change == 0 and effect.peak > 0 and len(effect.pops) > 0 else 1


def shortest_many(effect, items):
    """Return the number of the shortest sequences with exactly this effect that use only the given items."""
    check_items(items)
    if effect.is_never:
        return len(items) * (len(items) - 1)
    if not all([item in items for item in effect.pops + effect.pushes]):
        return 0
    # Each item that is pushed on the way up to the peak and popped again is free.
    return ways_many(effect) * power(len(items), surplus(effect))
