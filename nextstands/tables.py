"""Tables, and what calls do to them.

A table tells which chairs are taken; it does not tell who sits where once
people have passed the last chair. So calls are followed on lists of *seats*:
everybody's chair, in the order of the people's numbers.
"""


def is_chair(size, thing):
    """Whether the thing is the number of a chair."""
    if not isinstance(thing, int) or isinstance(thing, bool):
        return False
    return 0 <= thing < size


def all_chairs(size, things):
    """Whether each item is the number of a chair."""
    return all([is_chair(size, thing) for thing in things])


def is_table(size, thing):
    """Whether the thing is a table: an ascending tuple of chairs, some but not all of them."""
    if not isinstance(thing, tuple) or not all_chairs(size, thing):
        return False
    ascending = all([left < right for left, right in zip(thing, thing[1:])])
    return ascending and 1 <= len(thing) < size


def is_calls(size, thing):
    """Whether the thing is a list of chairs."""
    return isinstance(thing, list) and all_chairs(size, thing)


def mover(size, table, chair):
    """The number of the person who moves when the chair is called, or None."""
    person = None
    nearest = size
    for number, seat in enumerate(table):
        distance = (seat - chair) % size
        if distance < nearest:
            person = number
            nearest = distance
    # Distance 0 means that the chair itself is taken.
    return None if nearest == 0 else person


def seats_called(size, seats, chair):
    """The seats after one call."""
    person = mover(size, seats, chair)
    return [chair if number == person else seat for number, seat in enumerate(seats)]


def seats_along(size, table, calls):
    """The list of the seats before the first call and after each call."""
    seats = list(table)
    along = [seats]
    for chair in calls:
        seats = seats_called(size, seats, chair)
        along.append(seats)
    return along


def as_table(seats):
    """The table of the people on these seats."""
    return tuple(sorted(seats))


def called(size, table, chair):
    """The table after one call."""
    return as_table(seats_called(size, table, chair))


def table_after(size, table, calls):
    """The table after all calls."""
    return as_table(seats_after(size, table, calls))


def tables_along(size, table, calls):
    """The list of the table before the first call and after each call."""
    return [as_table(seats) for seats in seats_along(size, table, calls)]


def idle_calls(size, table, calls):
    """The ascending list of the indices of the calls that move nobody."""
    along = seats_along(size, table, calls)
    return [at for at in range(len(calls)) if along[at] == along[at + 1]]


def steps(size, table, calls):
    """The list of everybody's steps in all calls together, by their numbers in the table."""
    along = seats_along(size, table, calls)
    total = [0 for seat in table]
    for before, after in zip(along, along[1:]):
        # One call moves nobody all the way round, so the chairs tell the steps.
        total = [so_far + (old - new) % size for so_far, old, new in zip(total, before, after)]
    return total


def seats_after(size, table, calls):
    """The list of everybody's chairs after all calls, by their numbers in the table."""
    return seats_along(size, table, calls)[-1]
