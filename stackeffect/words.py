"""Items, words, steps and sequences, and what a sequence does to one given stack."""

from stackeffect.errors import InvalidNumber, InvalidSteps, InvalidWord
from stackeffect.integers import is_between

LETTERS = "abcdefghijklmnopqrstuvwxyz"
FIRST_ITEM = "a"
MOST_LETTERS = 8
MOST_STEPS = 1000
MOST_LIMIT = 1000
OPPOSITES = {"push": "pop", "pop": "push"}


def is_item(value):
    """Return whether any value is an item."""
    if not isinstance(value, str) or not 1 <= len(value) <= MOST_LETTERS:
        return False
    return all([letter in LETTERS for letter in value])


def is_word(value):
    """Return whether any value is a word."""
    return isinstance(value, tuple) and all([is_item(item) for item in value])


def is_step(value):
    """Return whether any value is a step."""
    if not isinstance(value, tuple) or len(value) != 2:
        return False
    action, item = value
    # Only strings are looked up, because other values may not be hashable.
    return isinstance(action, str) and action in OPPOSITES and is_item(item)


def may_hold_steps(value):
    """Return whether any value is a list or tuple with no more elements than a sequence has."""
    return isinstance(value, (list, tuple)) and len(value) <= MOST_STEPS


def is_sequence(value):
    """Return whether any value is a sequence."""
    return may_hold_steps(value) and all([is_step(step) for step in value])


def is_limit(value):
    """Return whether any value is a limit."""
    return value is None or is_between(value, 0, MOST_LIMIT)


def check_steps(steps):
    """Raise InvalidSteps unless the steps are a sequence."""
    if not may_hold_steps(steps):
        raise InvalidSteps(None)
    for index, step in enumerate(steps):
        if not is_step(step):
            raise InvalidSteps(index)


def check_word(word):
    """Raise InvalidWord unless the value is a word."""
    if not is_word(word):
        raise InvalidWord(word)


def check_limit(limit):
    """Raise InvalidNumber unless the value is a limit."""
    if not is_limit(limit):
        raise InvalidNumber(limit)


def check_run(steps, stack, limit):
    """Raise the error for the leftmost of the three that is not valid."""
    check_steps(steps)
    check_word(stack)
    check_limit(limit)


def is_too_high(height, limit):
    """Return whether a height exceeds a limit."""
    return limit is not None and height > limit


def after_step(step, stack, limit):
    """Return the stack after one step, or None if the step fails."""
    action, item = step
    if action == "push":
        return None if is_too_high(len(stack) + 1, limit) else (item,) + stack
    return stack[1:] if stack[:1] == (item,) else None


def follow(steps, stack, limit):
    """Return what failing_index returns, and the stack before the failure or at the end."""
    if is_too_high(len(stack), limit):
        return -1, stack
    for index, step in enumerate(steps):
        after = after_step(step, stack, limit)
        if after is None:
            return index, stack
        stack = after
    return None, stack


def run(steps, stack, *, limit=None):
    """Return the stack that the sequence makes of a stack, or None if it fails."""
    check_run(steps, stack, limit)
    failed, last = follow(steps, stack, limit)
    return last if failed is None else None


def failing_index(steps, stack, *, limit=None):
    """Return the index of the step that fails, -1 if the stack is too high for any, or None if none fails."""
    check_run(steps, stack, limit)
    return follow(steps, stack, limit)[0]


def trace(steps, stack, *, limit=None):
    """Yield the stack at the beginning and after each step, up to the first failure."""
    check_run(steps, stack, limit)
    if is_too_high(len(stack), limit):
        return
    # The caller may change its list between two stages.
    kept = list(steps)
    yield stack
    for step in kept:
        stack = after_step(step, stack, limit)
        if stack is None:
            return
        yield stack


def reverse(steps):
    """Return the list of the steps in reverse order, with push and pop exchanged."""
    check_steps(steps)
    return [(OPPOSITES[action], item) for action, item in steps[::-1]]
