"""Wanted effects: blocks that act as an effect, or a table which shows that none do."""

from stackeffect.effects import Effect
from stackeffect.errors import InvalidEffect
from stackeffect.reach import check_blocks, has_at_most, is_reachable, reach, route
from stackeffect.words import LETTERS

MOST_WANTED_ITEMS = 29


def is_wanted(value):
    """Return whether any value is an effect that may be wanted."""
    return isinstance(value, Effect) and not value.is_never and has_at_most(value, MOST_WANTED_ITEMS)


def check_wanted(blocks, effect):
    """Raise InvalidBlocks or InvalidEffect for the first of the two that is not valid."""
    check_blocks(blocks)
    if not is_wanted(effect):
        raise InvalidEffect(effect)


def marker_of(effects):
    """Return the first item, by length and then alphabetically, that occurs in none of the effects."""
    used = {}
    for effect in effects:
        if not effect.is_never:
            for item in effect.pops + effect.pushes:
                used[item] = True
    # Eight blocks and a wanted effect have fewer items than there are items of one or two letters.
    choices = list(LETTERS) + [first + second for first in LETTERS for second in LETTERS]
    return [item for item in choices if item not in used][0]


def marked_stacks(blocks, effect):
    """Return the pops and the pushes of the effect, each followed by the marker."""
    marker = marker_of(list(blocks.values()) + [effect])
    return effect.pops + (marker,), effect.pushes + (marker,)


def combination(blocks, effect, *, most=1000):
    """Return a shortest list of block names that acts as the effect, or None."""
    check_wanted(blocks, effect)
    start, goal = marked_stacks(blocks, effect)
    return route(blocks, start, goal, most=most)


def refutation(blocks, effect):
    """Return None if some list of blocks acts as the effect, otherwise a start, a goal and a certificate against it."""
    check_wanted(blocks, effect)
    start, goal = marked_stacks(blocks, effect)
    if is_reachable(blocks, start, goal):
        return None
    return start, goal, reach(blocks, start)
