"""What the tests share: calls made by hand, small cases, and a limit on the work of a call."""

import itertools
import sys


def tables_of(size, people):
    return list(itertools.combinations(range(size), people))


def small_tables(largest):
    """All (size, table) up to this size."""
    for size in range(2, largest + 1):
        for people in range(1, size):
            for table in tables_of(size, people):
                yield size, table


def mixed_calls(size, many, seed):
    """A fixed list of calls without a visible pattern."""
    calls = []
    state = seed * 7919 + size * 104729 + 12345
    for _ in range(many):
        state = (state * 1103515245 + 12345) % 2147483648
        calls.append(state // 65536 % size)
    return calls


def small_cases(largest):
    """All (size, people) up to this size."""
    for size in range(2, largest + 1):
        for people in range(1, size):
            yield size, people


def some_calls(size):
    """Lists of calls of several lengths, from the empty one to 120 chairs."""
    yield []
    for chair in range(size):
        yield [chair]
    for many in (2, 3, 5, 8, 13, 40, 120):
        yield mixed_calls(size, many, many)
    yield list(range(size))
    yield list(range(size))[::-1]


class ByHand:
    """People moved chair by chair, as section 4 tells it."""

    def __init__(self, size, table):
        self.size = size
        self.seats = list(table)
        self.walked = [0] * len(self.seats)

    def call(self, chair):
        if chair in self.seats:
            return None
        spot = chair
        while spot not in self.seats:
            spot = 0 if spot == self.size - 1 else spot + 1
        person = self.seats.index(spot)
        while self.seats[person] != chair:
            spot = self.size - 1 if spot == 0 else spot - 1
            self.seats[person] = spot
            self.walked[person] += 1
        return person

    def table(self):
        return tuple(sorted(self.seats))


def walked_by_hand(size, table, calls):
    hand = ByHand(size, table)
    for chair in calls:
        hand.call(chair)
    return hand.walked


def table_by_hand(size, table, calls):
    hand = ByHand(size, table)
    for chair in calls:
        hand.call(chair)
    return hand.table()


def moves_by_hand(size, people, calls):
    """The MOVES from the definition: each pack is sat down and moved by itself."""
    rows = []
    for end in range(size):
        row = [end]
        while len(row) < people:
            row.append(size - 1 if row[-1] == 0 else row[-1] - 1)
        rows.append(tuple(walked_by_hand(size, row, calls)))
    return tuple(rows)


def nested(value, levels, kind):
    """The value inside so many lists or tuples."""
    for _ in range(levels):
        value = kind([value])
    return value


def as_lists(value):
    """The same value with lists for tuples, at any depth."""
    if isinstance(value, (list, tuple)):
        return [as_lists(item) for item in value]
    return value


def as_tuples(value):
    """The same value with tuples for lists, at any depth."""
    if isinstance(value, (list, tuple)):
        return tuple(as_tuples(item) for item in value)
    return value


def shape(value):
    """The value with the exact kind of each part, so that 1 and True, or (1,) and [1], differ."""
    if isinstance(value, (list, tuple)):
        return (type(value).__name__, [shape(item) for item in value])
    return (type(value).__name__, value)


class TooMuchWork(Exception):
    pass


def within(lines, function, *arguments):
    """The result of the call; TooMuchWork once it has executed more than so many lines."""
    left = lines

    def trace(frame, event, argument):
        nonlocal left
        left -= 1
        if left < 0:
            raise TooMuchWork
        return trace

    before = sys.gettrace()
    sys.settrace(trace)
    try:
        return function(*arguments)
    finally:
        sys.settrace(before)
