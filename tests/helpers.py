"""What several tests share: small stacks and sequences, and the meaning of a sequence written out plainly."""

from itertools import product

from stackeffect.effects import Effect

LIMITS = [None, 0, 1, 2, 3, 4, 1000]
BAD_LIMITS = [-1, 1001, True, False, '1', 1.0, [], (), {}, b'1', 10 ** 39]


class Odd:
    """A value that claims to be equal to everything."""

    __hash__ = None

    def __eq__(self, other):
        return True


def other_values():
    """Values that are neither items nor words nor sequences nor numbers."""
    return [None, True, False, 0, 1, -1, 1.5, b'', b'a', {}, {'a': 1}, {'a'}, frozenset(), object(), Odd(),
            range(3), iter([]), Effect.nothing(), Effect.never(), Effect, len, float('nan'), 1j]


def words(items, most):
    """All words over the items of at most so many items, by height and then as tuples are compared."""
    return [word for many in range(most + 1) for word in product(sorted(items), repeat=many)]


def step_lists(items, most):
    """All sequences over the items of at most so many steps."""
    steps = [(action, item) for action in ('push', 'pop') for item in items]
    return [list(chosen) for many in range(most + 1) for chosen in product(steps, repeat=many)]


def stages(steps, stack, limit):
    """The stacks before the first failure, and the index of the failing step, -1 or None."""
    if limit is not None and len(stack) > limit:
        return [], -1
    seen = [stack]
    for index, (action, item) in enumerate(steps):
        top_last = list(seen[-1])[::-1]
        if action == 'push' and (limit is None or len(top_last) < limit):
            top_last.append(item)
        elif action == 'pop' and top_last and top_last[-1] == item:
            top_last.pop()
        else:
            return seen, index
        seen.append(tuple(top_last[::-1]))
    return seen, None


def result(steps, stack, limit):
    """What run has to return."""
    seen, failed = stages(steps, stack, limit)
    return seen[-1] if failed is None else None


def small_effects(items, most, more_peaks):
    """Never, and all effects over the items with short pops and pushes and so many peaks above the least one."""
    effects = [Effect.never()]
    for pops, pushes in product(words(items, most), repeat=2):
        least = max(0, len(pushes) - len(pops))
        effects += [Effect(pops, pushes, peak=peak) for peak in range(least, least + more_peaks + 1)]
    return effects


def parts(effect):
    """The pops, the pushes and the peak of an effect."""
    return effect.pops, effect.pushes, effect.peak


def raised(action):
    """The error that an action raises: its class and its attributes."""
    try:
        action()
    except Exception as error:
        return error.__class__, vars(error)
    return None


NOT_TABLES = other_values() + [
    (), [], '', 'abc', ([], []), ([], [], [], []), [[], [], []], ((), [], []), ([], (), []), ([], [], ()),
    ([(0, 'a', 0)] * 5001, [], []), {'edges': [], 'skips': [], 'ends': []}, ([], [], None), (None, [], []),
    ([[]], [], []), ([()], [], []), ([], [[]], []), ([], [], [()])]
NOT_WORDS = [None, True, 5, 'a', '', ['a'], [], {}, ('A',), ('a', ''), ('a', 1), Odd(), (Odd(),), (('a',),)]


def states_after(table, stack):
    """The states in which reading the stack can end, found step by step from (state, number of items read)."""
    edges, skips, ends = table
    found, pending = set(), [(0, 0)]
    while pending:
        place = pending.pop()
        if place in found:
            continue
        found.add(place)
        state, at = place
        if state == 0:
            pending += [(skip, at) for skip in skips]
        if at < len(stack):
            pending += [(target, at + 1) for source, item, target in edges if (source, item) == (state, stack[at])]
    return frozenset(state for state, at in found if at == len(stack))


def is_read(table, stack):
    return not states_after(table, stack).isdisjoint(table[2])


def drawn_tables(random, many):
    """Small tables: up to three states, two items, with skips, edges into state 0 and doubled parts."""
    for case in range(many):
        states = random.randrange(1, 4)
        edges = [(random.randrange(states), random.choice('ab'), random.randrange(states))
                 for edge in range(random.randrange(7))]
        skips = [random.randrange(states) for skip in range(random.choice((0, 0, 1, 2)))]
        ends = [random.randrange(states) for end in range(random.choice((0, 1, 1, 2)))]
        yield edges, skips, ends


def drawn_word(random, items, lengths):
    return tuple(random.choice(items) for at in range(random.choice(lengths)))


def drawn_blocks(random, items, lengths, many):
    """So many blocks with drawn words, some of them never, under drawn names in a drawn order."""
    names = random.sample(['a', 'b', 'pop', 'push', 'zz', 'abcdefgh', 'limit', 'self'], many)
    return {name: Effect.never() if random.random() < 0.1 else
            Effect(drawn_word(random, items, lengths), drawn_word(random, items, lengths)) for name in names}


def after_block(effect, stack):
    """The stack after a block, or None if it cannot be used."""
    if effect.is_never or stack[:len(effect.pops)] != effect.pops:
        return None
    return effect.pushes + stack[len(effect.pops):]


def after_blocks(blocks, names, stack):
    """The stack after a list of blocks, or None if one of them cannot be used."""
    for name in names:
        if stack is not None:
            stack = after_block(blocks[name], stack)
    return stack


def is_certificate(blocks, start, table):
    """Whether a table is a certificate, by the definition."""
    usable = [effect for effect in blocks.values() if not effect.is_never]
    return is_read(table, start) and all(
        states_after(table, effect.pops) <= states_after(table, effect.pushes) for effect in usable)


def not_blocks():
    """Values of every kind that are not blocks."""
    good = Effect(('a',), ('b',))
    nine = {name: good for name in 'abcdefghi'}
    bad_names = ['', 'A', 'a1', 'abcdefghi', None, 0, True, b'a', ('a',), frozenset()]
    bad_effects = [None, 'a', (('a',), ('b',)), [good], {}, 0, Effect, Odd(), ('push', 'a'), [('push', 'a')],
                   Effect(('a',) * 9, ()), Effect((), ('a',) * 9), Effect(('a',) * 9, ('b',) * 9)]
    values = [value for value in other_values() if value != {}] + [
        {}, nine, [good], [('a', good)], (('a', good),), 'a', '', [], (), {'a': good, 'b': None}]
    return values + [{name: good} for name in bad_names] + [{'b': good, name: good} for name in bad_names] + [
        {'a': effect} for effect in bad_effects] + [{'a': good, 'b': effect, 'c': good} for effect in bad_effects]
