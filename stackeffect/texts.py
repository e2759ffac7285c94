"""Texts: words, sequences and effects as they are written."""

from stackeffect.effects import Effect, least_peak
from stackeffect.errors import InvalidText
from stackeffect.words import is_item, is_sequence, is_word

DIGITS = "0123456789"
MANY_DIGITS = 1000000000000000000
EMPTY_WORD = "-"
EMPTY_SEQUENCE = "."
NEVER = "never"
SIGNS = {"push": "+", "pop": "-"}
ACTIONS = {"+": "push", "-": "pop"}


def word_in(text):
    """Return the word that is written as a text, or None."""
    if text == EMPTY_WORD:
        return ()
    word = tuple(text.split("."))
    return word if is_word(word) else None


def steps_in(text):
    """Return the list of the steps of the sequence that is written as a text, or None."""
    if text == EMPTY_SEQUENCE:
        return []
    steps = [(ACTIONS.get(part[:1]), part[1:]) for part in text.split(" ")]
    return steps if is_sequence(steps) else None


def number_in(text):
    """Return the number that is written in decimal without leading zeros, or None."""
    if text == "" or not all([digit in DIGITS for digit in text]) or (text[0] == "0" and text != "0"):
        return None
    # Python itself does not read numbers of more than some thousand digits.
    number = 0
    for digit in text:
        number = 10 * number + DIGITS.index(digit)
    return number


def text_of_number(number):
    """Return the text of a number from 0 in decimal."""
    # Python itself does not write numbers of more than some thousand digits.
    parts = []
    while number >= MANY_DIGITS:
        number, rest = divmod(number, MANY_DIGITS)
        parts.append(f"{rest:018d}")
    parts.append(f"{number}")
    return "".join(parts[::-1])


def effect_in(text):
    """Return the effect that is written as a text, or None."""
    if text == NEVER:
        return Effect.never()
    parts = text.split(" ")
    if len(parts) != 5 or parts[1] != ">" or parts[3] != "^":
        return None
    pops, pushes, peak = word_in(parts[0]), word_in(parts[2]), number_in(parts[4])
    if pops is None or pushes is None or peak is None or peak < least_peak(pops, pushes):
        return None
    return Effect(pops, pushes, peak=peak)


def format_word(word):
    """Return the text of a word."""
    if not is_word(word):
        raise InvalidText(word)
    return ".".join(word) if word else EMPTY_WORD


def format_steps(steps):
    """Return the text of a sequence."""
    if not is_sequence(steps):
        raise InvalidText(steps)
    return " ".join([SIGNS[action] + item for action, item in steps]) if steps else EMPTY_SEQUENCE


def format_effect(effect):
    """Return the text of an effect."""
    if not isinstance(effect, Effect):
        raise InvalidText(effect)
    if effect.is_never:
        return NEVER
    return f"{format_word(effect.pops)} > {format_word(effect.pushes)} ^ {text_of_number(effect.peak)}"


def parse_word(text):
    """Return the word that is written as a text."""
    word = word_in(text) if isinstance(text, str) else None
    if word is None:
        raise InvalidText(text)
    return word


def parse_steps(text):
    """Return the list of the steps of the sequence that is written as a text."""
    steps = steps_in(text) if isinstance(text, str) else None
    if steps is None:
        raise InvalidText(text)
    return steps


def parse_effect(text):
    """Return the effect that is written as a text."""
    effect = effect_in(text) if isinstance(text, str) else None
    if effect is None:
        raise InvalidText(text)
    return effect
