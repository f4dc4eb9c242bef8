"""Tables written as lines of text, and read from them."""

from nextstands.errors import BadLine
from nextstands.tables import is_table

LEAST_SIZE = 2
MOST_SIZE = 10


def spaced(numbers):
    """The numbers, separated by single spaces."""
    return " ".join([str(number) for number in numbers])


def number_written(text, least, most):
    """The number from the least to the most that is written exactly so, or None."""
    # Compared as text: so no sign, no leading zero and no endless digits need a rule of their own.
    for number in range(least, most + 1):
        if str(number) == text:
            return number
    return None


def chair_written(size, text):
    """The chair that is written exactly so, or None."""
    return number_written(text, 0, size - 1)


def table_line(size, table):
    """The line of a table."""
    return f"{size}: {spaced(table)}"


def table_from(line):
    """The tuple (size, table) with this line."""
    head, mark, rest = line.partition(": ")
    size = number_written(head, LEAST_SIZE, MOST_SIZE)
    if size is None:
        raise BadLine(line)
    table = tuple([chair_written(size, part) for part in rest.split(" ")])
    if not is_table(size, table):
        raise BadLine(line)
    return size, table
