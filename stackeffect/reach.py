"""Blocks, which may be used any number of times: the stacks that they reach, certificates, and shortest routes."""

from stackeffect.effects import Effect
from stackeffect.errors import InvalidBlocks, InvalidWord, LimitExceeded
from stackeffect.integers import check_between
from stackeffect.tables import Reader, is_table
from stackeffect.words import is_item, is_word

MOST_BLOCKS = 8
MOST_BLOCK_ITEMS = 8
MOST_STACK_ITEMS = 30
MOST_NAMES = 5000


def has_at_most(effect, many):
    """Return whether neither the pops nor the pushes of an effect other than never have more items."""
    return len(effect.pops) <= many and len(effect.pushes) <= many


def is_block(value):
    """Return whether any value is the effect of a block."""
    return isinstance(value, Effect) and (value.is_never or has_at_most(value, MOST_BLOCK_ITEMS))


def are_blocks(value):
    """Return whether any value is a dict of blocks."""
    if not isinstance(value, dict) or not 1 <= len(value) <= MOST_BLOCKS:
        return False
    return all([is_item(name) and is_block(effect) for name, effect in value.items()])


def check_blocks(blocks):
    """Raise InvalidBlocks unless the value is a dict of blocks."""
    if not are_blocks(blocks):
        raise InvalidBlocks(blocks)


def check_stack(stack):
    """Raise InvalidWord unless the value is a word that may be a start or a goal."""
    if not is_word(stack) or len(stack) > MOST_STACK_ITEMS:
        raise InvalidWord(stack)


def check_search(blocks, start, goal):
    """Raise the error for the leftmost of the three that is not valid."""
    check_blocks(blocks)
    check_stack(start)
    check_stack(goal)


def rules_of(blocks):
    """Return the list of the tuples (name, pops, pushes) of the blocks that can be used, ascending."""
    return [(name, blocks[name].pops, blocks[name].pushes) for name in sorted(blocks) if not blocks[name].is_never]


class Search:
    """Lets a table grow from a start until it is closed under all rules, and reads goals by it.

    An edge is a tuple (state, item, state); a skip is one with None in place of its item. The cost of an edge is the
    number of blocks that it stands for, so that the cheapest way through the table from the beginning to the end that
    reads a stack costs the least number of blocks that reach this stack. A place is a tuple (number of a word, number
    of its items that are read, state); the words are the pops of the rules, followed by the goals.
    """

    def __init__(self, rules, start, goals):
        self.rules = rules
        self.words = [pops for name, pops, pushes in rules] + goals
        self.states = 1
        self.costs = {}
        self.makers = {}
        self.onward = {}
        self.settled = {}
        self.origins = {}
        self.visitors = {}
        self.waiting = {0: [((word, 0, 0), None, None) for word in range(len(self.words))]}
        self.end = self.add_path(start)
        self.bases = [self.add_path(pushes[:-1]) for name, pops, pushes in rules]
        self.settle_all()

    def add_path(self, word):
        """Add states that read a word from the beginning and stand for no block; return the last one."""
        state = 0
        for item in word:
            self.add_edge((state, item, self.states), 0)
            state = self.states
            self.states += 1
        return state

    def add_edge(self, edge, cost):
        """Add an edge, and note where it leads from the places that are settled."""
        state, item, target = edge
        self.costs[edge] = cost
        self.onward.setdefault((state, item), []).append(edge)
        for place in self.visitors.get((state, item), []):
            self.add_waiting(place, edge)

    def add_waiting(self, place, edge):
        """Note the place to which an edge leads from a settled place, under its cost."""
        word, read, state = place
        item, target = edge[1:]
        after = (word, read if item is None else read + 1, target)
        cost = self.settled[place] + self.costs[edge]
        self.waiting.setdefault(cost, []).append((after, place, edge))

    def settle_all(self):
        """Settle all places, in the order of their costs, so that each is settled at its least one."""
        while self.waiting:
            cost = min(list(self.waiting))
            due = self.waiting.pop(cost)
            for place, before, edge in due:
                if place not in self.settled:
                    self.settled[place] = cost
                    self.origins[place] = (before, edge)
                    self.go_on(place)

    def go_on(self, place):
        """Note where all edges lead from a settled place, and use the rule whose pops are read there."""
        word, read, state = place
        for item in (None,) + self.words[word][read:read + 1]:
            self.visitors.setdefault((state, item), []).append(place)
            for edge in self.onward.get((state, item), []):
                self.add_waiting(place, edge)
        if word < len(self.rules) and read == len(self.words[word]):
            self.use_rule(word, state, self.settled[place] + 1)

    def use_rule(self, rule, state, cost):
        """Let the pushes of a rule lead to a state to which its pops lead."""
        name, pops, pushes = self.rules[rule]
        edge = (self.bases[rule], pushes[-1] if pushes else None, state)
        # Costs only rise, so an edge that is there is cheap enough; and state 0 need not skip to itself.
        if edge not in self.costs and edge != (0, None, 0):
            self.makers[edge] = rule
            self.add_edge(edge, cost)

    def table(self):
        """Return the table, which accepts exactly the reachable stacks."""
        edges = [edge for edge in self.costs if edge[1] is not None]
        skips = [edge[2] for edge in self.costs if edge[1] is None]
        return sorted(edges), sorted(skips), [self.end]

    def last_place(self, word):
        """Return the place at which a word is read to the end of the table."""
        return word, len(self.words[word]), self.end

    def least(self, word):
        """Return the least number of blocks that reach a word, or None."""
        return self.settled.get(self.last_place(word))

    def way(self, place):
        """Return the edges of the cheapest way to a place, the last one first."""
        edges = []
        before, edge = self.origins[place]
        while edge is not None:
            edges.append(edge)
            before, edge = self.origins[before]
        return edges

    def names_to(self, word):
        """Return the names of the least number of blocks that reach a word."""
        names = []
        edges = self.way(self.last_place(word))
        for step in range(self.least(word)):
            edge = edges.pop()
            # The edges before it read the other items that the last block pushed.
            while edge not in self.makers:
                edge = edges.pop()
            rule = self.makers[edge]
            names.append(self.rules[rule][0])
            edges += self.way((rule, len(self.words[rule]), edge[2]))
        return names[::-1]


def goal_search(blocks, start, goal):
    """Return the search for a goal, and the number of the goal among its words."""
    rules = rules_of(blocks)
    return Search(rules, start, [goal]), len(rules)


def reach(blocks, start):
    """Return a certificate that accepts exactly the stacks that the blocks reach from the start."""
    check_blocks(blocks)
    check_stack(start)
    return Search(rules_of(blocks), start, []).table()


def is_closed(reader, pops, pushes):
    """Return whether the pushes can lead to all states to which the pops can lead."""
    return (reader.after_word(pops) & ~reader.after_word(pushes)) == 0


def check(blocks, start, table):
    """Return whether any value is a certificate for the blocks and the start."""
    check_blocks(blocks)
    check_stack(start)
    if not is_table(table):
        return False
    reader = Reader(table)
    if (reader.after_word(start) & reader.accepting) == 0:
        return False
    return all([is_closed(reader, pops, pushes) for name, pops, pushes in rules_of(blocks)])


def is_reachable(blocks, start, goal):
    """Return whether the blocks reach the goal from the start."""
    return least_blocks(blocks, start, goal) is not None


def least_blocks(blocks, start, goal):
    """Return the least number of blocks that turn the start into the goal, or None."""
    check_search(blocks, start, goal)
    search, word = goal_search(blocks, start, goal)
    return search.least(word)


def route(blocks, start, goal, *, most=1000):
    """Return a shortest list of block names that turns the start into the goal, or None."""
    check_search(blocks, start, goal)
    check_between(most, 0, MOST_NAMES)
    search, word = goal_search(blocks, start, goal)
    least = search.least(word)
    if least is None:
        return None
    if least > most:
        raise LimitExceeded(most)
    return search.names_to(word)
