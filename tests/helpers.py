"""What several tests share: small stacks and sequences, and the meaning of a sequence written out plainly."""

from itertools import product

from stackeffect.effects import Effect

LIMITS = [None, 0, 1, 2, 3, 4, 1000]
BAD_LIMITS = [-1, 1001, True, False, '1', 1.0, [], (), {}, b'1', 10 ** 39]


class Odd:
    """A value that claims to be equal to everything."""

    __hash__ = None

    def __eq__(self, other):
        return True


def other_values():
    """Values that are neither items nor words nor sequences nor numbers."""
    return [None, True, False, 0, 1, -1, 1.5, b'', b'a', {}, {'a': 1}, {'a'}, frozenset(), object(), Odd(),
            range(3), iter([]), Effect.nothing(), Effect.never(), Effect, len, float('nan'), 1j]


def words(items, most):
    """All words over the items of at most so many items, by height and then as tuples are compared."""
    return [word for many in range(most + 1) for word in product(sorted(items), repeat=many)]


def step_lists(items, most):
    """All sequences over the items of at most so many steps."""
    steps = [(action, item) for action in ('push', 'pop') for item in items]
    return [list(chosen) for many in range(most + 1) for chosen in product(steps, repeat=many)]


def stages(steps, stack, limit):
    """The stacks before the first failure, and the index of the failing step, -1 or None."""
    if limit is not None and len(stack) > limit:
        return [], -1
    seen = [stack]
    for index, (action, item) in enumerate(steps):
        top_last = list(seen[-1])[::-1]
        if action == 'push' and (limit is None or len(top_last) < limit):
            top_last.append(item)
        elif action == 'pop' and top_last and top_last[-1] == item:
            top_last.pop()
        else:
            return seen, index
        seen.append(tuple(top_last[::-1]))
    return seen, None


def result(steps, stack, limit):
    """What run has to return."""
    seen, failed = stages(steps, stack, limit)
    return seen[-1] if failed is None else None


def small_effects(items, most, more_peaks):
    """Never, and all effects over the items with short pops and pushes and so many peaks above the least one."""
    effects = [Effect.never()]
    for pops, pushes in product(words(items, most), repeat=2):
        least = max(0, len(pushes) - len(pops))
        effects += [Effect(pops, pushes, peak=peak) for peak in range(least, least + more_peaks + 1)]
    return effects


def parts(effect):
    """The pops, the pushes and the peak of an effect."""
    return effect.pops, effect.pushes, effect.peak


def raised(action):
    """The error that an action raises: its class and its attributes."""
    try:
        action()
    except Exception as error:
        return error.__class__, vars(error)
    return None
