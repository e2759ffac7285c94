"""Tables, which describe sets of stacks.

A set of states is kept as an integer that has bit 0 for state 0, bit 1 for state 1, and so on.
"""

from stackeffect.errors import InvalidTable, LimitExceeded
from stackeffect.integers import check_between, is_between
from stackeffect.words import check_word, is_item

LAST_STATE = 999
MOST_EDGES = 5000
MOST_HEIGHT = 200
MOST_SETS = 2000


def is_state(value):
    """Return whether any value is a state."""
    return is_between(value, 0, LAST_STATE)


def is_state_list(value):
    """Return whether any value is a list of states."""
    return isinstance(value, list) and all([is_state(state) for state in value])


def is_edge(value):
    """Return whether any value is an edge of a table."""
    if not isinstance(value, tuple) or len(value) != 3:
        return False
    state, item, target = value
    return is_state(state) and is_item(item) and is_state(target)


def is_table(value):
    """Return whether any value is a table."""
    if not isinstance(value, tuple) or len(value) != 3:
        return False
    edges, skips, ends = value
    if not isinstance(edges, list) or len(edges) > MOST_EDGES:
        return False
    return all([is_edge(edge) for edge in edges]) and is_state_list(skips) and is_state_list(ends)


def check_table(table):
    """Raise InvalidTable unless the value is a table."""
    if not is_table(table):
        raise InvalidTable(table)


def set_of(states):
    """Return the set of the states in a list."""
    found = 0
    for state in states:
        found |= 1 << state
    return found


def members(states):
    """Return the ascending list of the states in a set."""
    found = []
    while states:
        lowest = states & -states
        found.append(lowest.bit_length() - 1)
        states ^= lowest
    return found


class Reader:
    """Reads stacks by a table; it keeps nothing of the table's lists, so they may change."""

    def __init__(self, table):
        edges, skips, ends = table
        self.skipped = set_of(skips)
        self.accepting = set_of(ends)
        self.targets = {}
        self.sources = {}
        for state, item, target in edges:
            row = self.targets.setdefault(state, {})
            row[item] = row.get(item, 0) | (1 << target)
            self.sources[target] = self.sources.get(target, 0) | (1 << state)
        self.known = {}
        self.beginning = self.with_skips(1)
        self.reachable = self.find_reachable()

    def with_skips(self, states):
        """Return the set with the states that can be reached from it without reading."""
        return states | self.skipped if states & 1 else states

    def after(self, states, item):
        """Return the set of states to which one item can lead from a set."""
        found = 0
        for state in members(states):
            found |= self.targets.get(state, {}).get(item, 0)
        return self.with_skips(found)

    def after_word(self, word):
        """Return the set of states to which a word can lead from the beginning."""
        states = self.beginning
        for item in word:
            states = self.after(states, item)
        return states

    def choices(self, states):
        """Return the list of the items that can be read in a set, descending, each with the set after it."""
        if states not in self.known:
            found = {}
            for state in members(states):
                for item, targets in self.targets.get(state, {}).items():
                    found[item] = found.get(item, 0) | targets
            self.known[states] = [(item, self.with_skips(found[item])) for item in sorted(found, reverse=True)]
        return self.known[states]

    def find_reachable(self):
        """Return the set of all states to which reading can lead."""
        found = 0
        fresh = self.beginning
        while fresh:
            found |= fresh
            beyond = 0
            for item, after in self.choices(fresh):
                beyond |= after
            fresh = beyond & ~found
        return found

    def useful(self, states):
        """Return the reachable states of a set, and state 0 if it can skip to one of the set."""
        return (states | 1 if states & self.skipped else states) & self.reachable

    def ends(self):
        """Return the set of reachable states in which a stack can be accepted at once."""
        return self.useful(self.accepting)

    def before(self, states):
        """Return the set of reachable states from which one item can lead to a set."""
        found = 0
        for state in members(states):
            found |= self.sources.get(state, 0)
        return self.useful(found)


def accepts(table, stack):
    """Return whether a table accepts a stack."""
    check_table(table)
    check_word(stack)
    reader = Reader(table)
    return (reader.after_word(stack) & reader.accepting) != 0


def stacks_of_height(reader, ahead):
    """Yield the accepted stacks of the height that is the last index of the list ahead, ascending.

    At index k of this list is the set of reachable states from which k more items can lead to acceptance.
    """
    height = len(ahead) - 1
    if not reader.beginning & ahead[height]:
        return
    word = []
    # Beginnings of accepted stacks: the number of items before the last, the last item if any, and the states.
    pending = [(0, [], reader.beginning)]
    while pending:
        many, last, states = pending.pop()
        word[many:] = last
        if len(word) == height:
            yield tuple(word)
        else:
            wanted = ahead[height - len(word) - 1]
            pending += [(len(word), [item], after) for item, after in reader.choices(states) if after & wanted]


def stacks(table):
    """Yield all accepted stacks, in ascending order of their heights, then as tuples are compared."""
    check_table(table)
    reader = Reader(table)
    ahead = [reader.ends()]
    # If no reachable state can go on to acceptance by so many items, none can by more.
    while ahead[-1]:
        yield from stacks_of_height(reader, ahead)
        ahead = [*ahead, reader.before(ahead[-1])]


def first_stack(table):
    """Return the first accepted stack, or None."""
    for stack in stacks(table):
        return stack
    return None


def is_finite(table):
    """Return whether a table accepts only finitely many stacks."""
    check_table(table)
    reader = Reader(table)
    ahead = reader.ends()
    # A way of so many items comes twice into one of the reachable states, so it can be made longer without end.
    for step in range(len(members(reader.reachable))):
        ahead = reader.before(ahead)
    return ahead == 0


def counts_after(reader, counts):
    """Return the numbers of stacks by the sets to which they lead, one item higher than the given ones."""
    found = {}
    for states in counts:
        for item, after in reader.choices(states):
            found[after] = found.get(after, 0) + counts[states]
        if len(found) > MOST_SETS:
            raise LimitExceeded(MOST_SETS)
    return found


def how_many(table, height):
    """Return the number of accepted stacks of a height."""
    check_table(table)
    check_between(height, 0, MOST_HEIGHT)
    reader = Reader(table)
    counts = {reader.beginning: 1}
    for step in range(height):
        counts = counts_after(reader, counts)
    return sum([counts[states] for states in counts if states & reader.accepting])
