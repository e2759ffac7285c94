"""A console: effects under names, and commands that are lines of text."""

from stackeffect.differences import commute, difference
from stackeffect.effects import Effect, effect_of
from stackeffect.errors import InvalidCommand, LimitExceeded, UnknownName
from stackeffect.powers import Power
from stackeffect.reach import MOST_BLOCKS, least_blocks
from stackeffect.texts import format_effect, format_word, number_in, steps_in, word_in
from stackeffect.words import is_item

MOST_NAMES = 20


def drop(stored, name):
    """Remove an effect."""
    del stored[name]
    return "ok"


def list_names(stored):
    """Return the names in ascending order."""
    return " ".join(sorted(stored)) if stored else "-"


def show(stored, name):
    """Return an effect."""
    return format_effect(stored[name])


def apply_to_stack(stored, name, stack):
    """Return what an effect makes of a stack."""
    result = stored[name].apply(stack)
    return "!" if result is None else format_word(result)


def join(stored, *names):
    """Return the combined effect."""
    effects = [stored[name] for name in names]
    return format_effect(Effect.nothing().then(*effects))


def reverse(stored, name):
    """Return the effect of the reversed sequences."""
    return format_effect(stored[name].reversal())


def stack_or_equal(stack):
    """Return a stack on which two effects differ, or the sign for None."""
    return "=" if stack is None else format_word(stack)


def compare(stored, one, other):
    """Return the first stack on which two effects differ."""
    return stack_or_equal(difference(stored[one], stored[other]))


def compare_orders(stored, one, other):
    """Return the first stack on which the two orders of two effects differ."""
    return stack_or_equal(commute(stored[one], stored[other]))


def repeat(stored, name, exponent):
    """Return the power of an effect, or its lengths and its peak."""
    power = Power(stored[name], exponent)
    try:
        return format_effect(power.effect())
    except LimitExceeded:
        return f"{power.pops_length} {power.pushes_length} {power.peak}"


def count_blocks(stored, start, goal, *names):
    """Return the least number of blocks that reach a goal."""
    blocks = {name: stored[name] for name in names}
    least = least_blocks(blocks, start, goal)
    return "no" if least is None else f"{least}"


COMMANDS = {
    "drop": drop, "names": list_names, "show": show, "apply": apply_to_stack, "join": join, "reverse": reverse,
    "same": compare, "commute": compare_orders, "power": repeat, "reach": count_blocks,
}
KINDS = {
    "drop": ("name",), "names": (), "show": ("name",), "apply": ("name", "stack"), "join": ("name", "name"),
    "reverse": ("name",), "same": ("name", "name"), "commute": ("name", "name"), "power": ("name", "number"),
    "reach": ("stack", "stack", "name"),
}


def most_words(command, many):
    """Return how many words may stand after a command's own, where so many do."""
    if command == "join":
        return many
    return len(KINDS[command]) + (MOST_BLOCKS - 1 if command == "reach" else 0)


def kinds_of(command, many):
    """Return the kinds of so many words after a command's own, or None if there cannot be so many."""
    if command not in KINDS or not len(KINDS[command]) <= many <= most_words(command, many):
        return None
    return KINDS[command] + ("name",) * (many - len(KINDS[command]))


def value_of(kind, word):
    """Return the value of a word of some kind, or None if it is not such a word."""
    if kind == "name":
        return word if is_item(word) else None
    return word_in(word) if kind == "stack" else number_in(word)


class Console:
    """Holds effects by names."""

    def __init__(self):
        self.stored = {}

    def run(self, line):
        """Carry out a command, and return its answer."""
        if not isinstance(line, str):
            raise InvalidCommand(line)
        command, *words = line.split(" ")
        if command == "define":
            return self.define(line, words)
        kinds = kinds_of(command, len(words))
        if kinds is None:
            raise InvalidCommand(line)
        values = [value_of(kind, word) for kind, word in zip(kinds, words)]
        if None in values:
            raise InvalidCommand(line)
        for kind, name in zip(kinds, values):
            if kind == "name" and name not in self.stored:
                raise UnknownName(name)
        action = COMMANDS[command]
        return action(self.stored, *values)

    def define(self, line, words):
        """Store the effect of a sequence under a name, and return it."""
        name = words[0] if words else ""
        steps = steps_in(" ".join(words[1:]))
        if not is_item(name) or steps is None:
            raise InvalidCommand(line)
        if name not in self.stored and len(self.stored) >= MOST_NAMES:
            raise LimitExceeded(MOST_NAMES)
        self.stored[name] = effect_of(steps)
        return show(self.stored, name)

    def __len__(self):
        return len(self.stored)
