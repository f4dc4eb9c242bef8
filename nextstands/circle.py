"""Circles: tables that record calls and can undo them."""

from nextstands.errors import NoChair, NoNumber
from nextstands.tables import as_table, is_chair, mover, seats_after, seats_along, steps


def movers(size, seats, calls):
    """The list of who moves at each of the calls."""
    along = seats_along(size, seats, calls)
    return [mover(size, before, chair) for before, chair in zip(along, calls)]


class Circle:
    """A table and the operations that were not reverted.

    Every answer but the log is told from the beginning and these operations
    alone, so that what was reverted or rejected cannot have left a trace.
    """

    def __init__(self, size, table):
        self.size = size
        self.beginning = tuple(table)
        # Each operation is the tuple of its calls.
        self.operations = []
        self.entries = []

    def call(self, chair):
        """Call a chair; the number of the person who moves, or None."""
        if not is_chair(self.size, chair):
            self.entries.append("call!")
            raise NoChair(chair)
        person = mover(self.size, self.seats(), chair)
        self.operations.append((chair,))
        self.entries.append("call")
        return person

    def call_all(self, calls):
        """Call several chairs as one operation; the list of what `call` would return for each."""
        for chair in calls:
            if not is_chair(self.size, chair):
                self.entries.append("call_all!")
                raise NoChair(chair)
        people = movers(self.size, self.seats(), calls)
        self.operations.append(tuple(calls))
        self.entries.append("call_all")
        return people

    def undo(self):
        """Revert the last operation that was not reverted; whether there was one."""
        if len(self.operations) == 0:
            self.entries.append("undo!")
            return False
        del self.operations[-1]
        self.entries.append("undo")
        return True

    def table(self):
        """The table."""
        return as_table(self.seats())

    def seats(self):
        """The list of everybody's chairs, by their numbers at the beginning."""
        return seats_after(self.size, self.beginning, self.calls())

    def steps(self):
        """The list of everybody's steps in all calls, by their numbers at the beginning."""
        return steps(self.size, self.beginning, self.calls())

    def begun(self):
        """The table at the beginning."""
        return self.beginning

    def chairs(self):
        """The number of chairs."""
        return self.size

    def calls(self):
        """The list of all calls of the operations that were not reverted."""
        return [chair for operation in self.operations for chair in operation]

    def operation_count(self):
        """The number of operations that can be reverted."""
        return len(self.operations)

    def log(self):
        """The list of the operations and undos so far, with `!` behind those that failed."""
        return list(self.entries)

    def as_of(self, many):
        """A new circle in the state after the first so many operations, with an empty log."""
        if not 0 <= many <= len(self.operations):
            raise NoNumber(many)
        circle = Circle(self.size, self.beginning)
        circle.operations = self.operations[:many]
        return circle

    def clone(self):
        """A new circle in the same state, with an empty log."""
        return self.as_of(len(self.operations))

    def __len__(self):
        return len(self.beginning)

    def __eq__(self, other):
        if not isinstance(other, Circle):
            return False
        if self.size != other.size or self.beginning != other.beginning:
            return False
        return self.calls() == other.calls()

    def __repr__(self):
        return f"Circle(chairs={self.size}, people={len(self.beginning)}, calls={len(self.calls())})"
