"""What the tests share: calls made by hand, small cases, and a limit on the work of a call."""

import itertools
import sys


def tables_of(size, people):
    return list(itertools.combinations(range(size), people))


def small_tables(largest):
    """All (size, table) up to this size."""
    for size in range(2, largest + 1):
        for people in range(1, size):
            for table in tables_of(size, people):
                yield size, table


def mixed_calls(size, many, seed):
    """A fixed list of calls without a visible pattern."""
    calls = []
    state = seed * 7919 + size * 104729 + 12345
    for _ in range(many):
        state = (state * 1103515245 + 12345) % 2147483648
        calls.append(state // 65536 % size)
    return calls


def small_cases(largest):
    """All (size, people) up to this size."""
    for size in range(2, largest + 1):
        for people in range(1, size):
            yield size, people


def some_calls(size):
    """Lists of calls of several lengths, from the empty one to 120 chairs."""
    yield []
    for chair in range(size):
        yield [chair]
    for many in (2, 3, 5, 8, 13, 40, 120):
        yield mixed_calls(size, many, many)
    yield list(range(size))
    yield list(range(size))[::-1]


class ByHand:
    """People moved chair by chair, as section 4 tells it."""

    def __init__(self, size, table):
        self.size = size
        self.seats = list(table)
        self.walked = [0] * len(self.seats)

    def call(self, chair):
        if chair in self.seats:
            return None
        spot = chair
        while spot not in self.seats:
            spot = 0 if spot == self.size - 1 else spot + 1
        person = self.seats.index(spot)
        while self.seats[person] != chair:
            spot = self.size - 1 if spot == 0 else spot - 1
            self.seats[person] = spot
            self.walked[person] += 1
        return person

    def table(self):
        return tuple(sorted(self.seats))


def walked_by_hand(size, table, calls):
    hand = ByHand(size, table)
    for chair in calls:
        hand.call(chair)
    return hand.walked


def table_by_hand(size, table, calls):
    hand = ByHand(size, table)
    for chair in calls:
        hand.call(chair)
    return hand.table()


def movers_by_hand(size, table, calls):
    hand = ByHand(size, table)
    return [hand.call(chair) for chair in calls]


def seats_by_hand(size, table, calls):
    hand = ByHand(size, table)
    for chair in calls:
        hand.call(chair)
    return hand.seats


def course_by_hand(size, table, calls):
    """The course from its definition, with every repetition done, over twice as many as there are tables."""
    along = [tuple(table)]
    for _ in range(2 * len(tables_of(size, len(table))) + 1):
        along.append(table_by_hand(size, along[-1], calls))
    for lead in range(len(along)):
        for period in range(1, len(along) - lead):
            if along[lead] == along[lead + period]:
                return lead, period
    raise AssertionError("no table came twice")


def moves_by_hand(size, people, calls):
    """The MOVES from the definition: each pack is sat down and moved by itself."""
    rows = []
    for end in range(size):
        row = [end]
        while len(row) < people:
            row.append(size - 1 if row[-1] == 0 else row[-1] - 1)
        rows.append(tuple(walked_by_hand(size, row, calls)))
    return tuple(rows)


def line_by_hand(size, table):
    line = str(size) + ":"
    for chair in table:
        line += " " + str(chair)
    return line


class Search:
    """A search layer by layer, from each table of one size and number of people."""

    def __init__(self, size, people):
        self.size = size
        self.tables = tables_of(size, people)
        self.after = {
            table: [table_by_hand(size, table, [chair]) for chair in range(size)] for table in self.tables}

    def lists_from(self, first):
        """For each table: all shortest lists of calls that lead there, in ascending order."""
        found = {first: [[]]}
        layer = [first]
        while layer:
            reached = {}
            for table in layer:
                for chair, after in enumerate(self.after[table]):
                    if after not in found:
                        reached.setdefault(after, []).extend(calls + [chair] for calls in found[table])
            for table in reached:
                found[table] = sorted(reached[table])
            layer = list(reached)
        return found


def nested(value, levels, kind):
    """The value inside so many lists or tuples."""
    for _ in range(levels):
        value = kind([value])
    return value


def as_lists(value):
    """The same value with lists for tuples, at any depth."""
    if isinstance(value, (list, tuple)):
        return [as_lists(item) for item in value]
    return value


def as_tuples(value):
    """The same value with tuples for lists, at any depth."""
    if isinstance(value, (list, tuple)):
        return tuple(as_tuples(item) for item in value)
    return value


def shape(value):
    """The value with the exact kind of each part, so that 1 and True, or (1,) and [1], differ."""
    if isinstance(value, (list, tuple)):
        return (type(value).__name__, [shape(item) for item in value])
    return (type(value).__name__, value)


class TooMuchWork(Exception):
    pass


def within(lines, function, *arguments):
    """The result of the call; TooMuchWork once it has executed more than so many lines."""
    left = lines

    def trace(frame, event, argument):
        nonlocal left
        left -= 1
        if left < 0:
            raise TooMuchWork
        return trace

    before = sys.gettrace()
    sys.settrace(trace)
    try:
        return function(*arguments)
    finally:
        sys.settrace(before)


def mixed_operations(size, many, seed):
    """A fixed list of operations of a circle: ("call", chair), ("call_all", chairs) and ("undo",).

    Some have integers among them that are not chairs.
    """
    operations = []
    for number, kind in enumerate(mixed_calls(10, many, seed)):
        chairs = mixed_calls(size, number % 5, seed + number)
        chair = mixed_calls(size, 1, seed + number)[0]
        wrong = (-1, size, size + 7, -10 ** 30, 10 ** 5000)[number % 5]
        if kind < 3:
            operations.append(("call", chair))
        elif kind < 6:
            operations.append(("call_all", chairs))
        elif kind < 8:
            operations.append(("undo",))
        elif kind < 9:
            operations.append(("call", wrong))
        else:
            operations.append(("call_all", chairs + [wrong, chair, wrong - 1]))
    return operations
