"""Steps on several named stacks."""

from stackeffect.counts import choose
from stackeffect.effects import effect_of
from stackeffect.errors import InvalidStacks, InvalidSteps
from stackeffect.words import follow, is_item, is_step, is_word, may_hold_steps


def is_named_step(value):
    """Return whether any value is a step on a named stack."""
    if not isinstance(value, tuple) or len(value) != 3:
        return False
    action, name, item = value
    return is_item(name) and is_step((action, item))


def check_named_steps(steps):
    """Raise InvalidSteps unless the value is a list or tuple of steps on named stacks, and not of too many."""
    if not may_hold_steps(steps):
        raise InvalidSteps(None)
    for index, step in enumerate(steps):
        if not is_named_step(step):
            raise InvalidSteps(index)


def are_stacks(value):
    """Return whether any value is a dict from names to stacks."""
    if not isinstance(value, dict):
        return False
    return all([is_item(name) and is_word(stack) for name, stack in value.items()])


def check_stacks(stacks):
    """Raise InvalidStacks unless the value is a dict from names to stacks."""
    if not are_stacks(stacks):
        raise InvalidStacks(stacks)


def split(steps):
    """Return a dict from the names, in the order in which they occur first, to the steps on these stacks."""
    check_named_steps(steps)
    found = {}
    for action, name, item in steps:
        found.setdefault(name, []).append((action, item))
    return found


def effects_of(steps):
    """Return a dict from the names, in the order in which they occur first, to effects, or None if one is never."""
    parts = split(steps)
    effects = {name: effect_of(parts[name]) for name in parts}
    return None if any([effect.is_never for effect in effects.values()]) else effects


def run_all(steps, stacks):
    """Return a dict from all names in the stacks or the steps to the resulting stacks, or None if a step fails."""
    parts = split(steps)
    check_stacks(stacks)
    results = {name: stacks[name] for name in sorted(stacks)}
    for name in parts:
        failed, results[name] = follow(parts[name], results.get(name, ()), None)
        if failed is not None:
            return None
    return results


def interleavings(steps):
    """Return the number of different sequences of these steps that have the same steps in order on each stack."""
    parts = split(steps)
    ways = 1
    placed = 0
    for name in parts:
        placed += len(parts[name])
        ways *= choose(placed, len(parts[name]))
    return ways
