"""Sessions: named stacks with a limit, and deeds that can be undone."""

from stackeffect.effects import joined, parts_of_step
from stackeffect.errors import InvalidWord, LimitExceeded, NothingToUndo, StepFailed
from stackeffect.several import check_named_steps, check_stacks
from stackeffect.words import after_step, check_limit, is_item, is_too_high


def check_name(name):
    """Raise InvalidWord unless the value is an item."""
    if not is_item(name):
        raise InvalidWord(name)


def check_heights(stacks, limit):
    """Raise LimitExceeded if one of the stacks is higher than the limit."""
    if any([is_too_high(len(stack), limit) for stack in stacks.values()]):
        raise LimitExceeded(limit)


def without_empty(stacks):
    """Return a dict of those of the stacks that are not empty."""
    return {name: stacks[name] for name in stacks if stacks[name] != ()}


class Session:
    """Named stacks with a limit for each of them.

    The dict of the stacks that are not empty is never changed, only replaced, so that deeds and copies may share it. A
    deed is a tuple of its steps, and of the stacks and the limit before it.
    """

    def __init__(self, *, limit=None, **stacks):
        check_limit(limit)
        check_stacks(stacks)
        check_heights(stacks, limit)
        self.filled = without_empty(stacks)
        self.highest_allowed = limit
        self.deeds = []

    def stack(self, name):
        """Return the stack with a name."""
        check_name(name)
        return self.filled.get(name, ())

    def names(self):
        """Return the ascending list of the names of the stacks that are not empty."""
        return sorted(self.filled)

    def push(self, name, item):
        """Push an item on a stack."""
        self.perform([("push", name, item)])

    def pop(self, name, item):
        """Pop an item from a stack."""
        self.perform([("pop", name, item)])

    def perform(self, steps):
        """Do all of the steps, or none if one of them fails."""
        check_named_steps(steps)
        after = dict(self.filled)
        for index, (action, name, item) in enumerate(steps):
            stack = after_step((action, item), after.get(name, ()), self.highest_allowed)
            if stack is None:
                self.note_failure(name)
                raise StepFailed(index)
            after[name] = stack
        self.add_deed(list(steps), without_empty(after), self.highest_allowed)

    def note_failure(self, name):
        """Take note that a step on a stack has failed, if the session counts such steps."""

    def add_deed(self, steps, stacks, limit):
        """Take over the stacks and the limit after a deed, and keep those before it."""
        self.deeds.append((steps, self.filled, self.highest_allowed))
        self.filled = stacks
        self.highest_allowed = limit

    @property
    def limit(self):
        """The height that no stack may exceed, or None."""
        return self.highest_allowed

    @limit.setter
    def limit(self, value):
        self.set_limit(value)

    def set_limit(self, value):
        """Set the limit."""
        check_limit(value)
        check_heights(self.filled, value)
        self.add_deed([], self.filled, value)

    def undo(self):
        """Undo the last deed that is not undone."""
        if len(self.deeds) == 0:
            raise NothingToUndo(0)
        steps, self.filled, self.highest_allowed = self.deeds.pop()

    def effect(self, name):
        """Return the effect of all steps on a stack that are not undone."""
        check_name(name)
        return joined([parts_of_step((action, item)) for steps, stacks, limit in self.deeds
                       for action, other, item in steps if other == name])

    def copy(self):
        """Return an independent session with the same deeds."""
        session = Session()
        session.take_over(self)
        return session

    def take_over(self, other):
        """Take over the stacks, the limit and the deeds of another session."""
        self.filled = other.filled
        self.highest_allowed = other.highest_allowed
        self.deeds = list(other.deeds)

    def __len__(self):
        return len(self.deeds)

    def __eq__(self, other):
        return (isinstance(other, Session) and self.filled == other.filled
                and self.highest_allowed == other.highest_allowed)


class Recorder(Session):
    """A session that also counts the steps that failed."""

    def __init__(self, *, limit=None, **stacks):
        given = {**stacks, "limit": limit}
        super().__init__(**given)
        self.failed = {}

    def note_failure(self, name):
        """Count a step on a stack that has failed."""
        self.failed[name] = self.failed.get(name, 0) + 1

    def failures(self):
        """Return a dict from the names, ascending, to the numbers of steps on these stacks that failed."""
        return {name: self.failed[name] for name in sorted(self.failed)}

    def copy(self):
        """Return an independent recorder with the same deeds and counts."""
        recorder = Recorder()
        recorder.take_over(self)
        recorder.failed = dict(self.failed)
        return recorder
