"""Lists of calls that are repeated: where tables run into a period, and what many repetitions do."""

from nextstands.packs import moves_of, pack, repeated, steps_by, table_by


def moves_of_many(size, people, calls, many):
    """The moves of so many repetitions of the calls."""
    return repeated(size, moves_of(size, people, calls), many)


def course(size, table, calls):
    """The tuple (lead, period): from which repetition on the tables return, and after how many."""
    moves = moves_of(size, len(table), calls)
    # For each table that was met: the number of repetitions that led to it.
    met = {}
    current = tuple(table)
    while current not in met:
        met[current] = len(met)
        current = table_by(size, moves, current)
    return met[current], len(met) - met[current]


def table_after_many(size, table, calls, many):
    """The table after so many repetitions."""
    return table_by(size, moves_of_many(size, len(table), calls, many), table)


def steps_after_many(size, table, calls, many):
    """The list of everybody's steps in so many repetitions, by their numbers in the table."""
    return steps_by(size, moves_of_many(size, len(table), calls, many), table)


def lowest_terms(numerator, denominator):
    """The fraction with the least denominator, which for 0 is 1."""
    divisor = denominator
    rest = numerator
    while rest > 0:
        divisor, rest = rest, divisor % rest
    return numerator // divisor, denominator // divisor


def average(size, people, calls):
    """The average steps of each person in one repetition, in the long run, as a fraction."""
    # It is the same at all tables, so one of them is enough.
    table = pack(size, people, people - 1)
    lead, period = course(size, table, calls)
    returning = table_after_many(size, table, calls, lead)
    # A period may leave people on each other's chairs, so only their steps together tell the average.
    walked = sum(steps_after_many(size, returning, calls, period))
    return lowest_terms(walked, people * period)
