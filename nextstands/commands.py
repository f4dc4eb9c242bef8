"""A small command language over a circle.

Each word of the language has a reader, which makes numbers of the parts behind
the word, or None if they do not have its form, and an action, which operates
on the circle with these numbers and tells the result.
"""

from nextstands.circle import Circle
from nextstands.compare import moving_difference
from nextstands.errors import BadLine, BadScript
from nextstands.lines import chair_written, spaced, table_from, table_line
from nextstands.rounds import course, table_after_many
from nextstands.ways import fewest_calls

MOST_DIGITS = 12


def read_nothing(size, parts):
    """No numbers at all."""
    return None if parts else []


def read_chairs(size, parts):
    """One or more chairs."""
    chairs = [chair_written(size, part) for part in parts]
    return None if not chairs or None in chairs else chairs


def read_chair(size, parts):
    """One chair."""
    return read_chairs(size, parts) if len(parts) == 1 else None


def is_count(text):
    """Whether the text is a decimal integer of not too many digits, without a leading zero."""
    if not text.isascii() or not text.isdigit():
        return False
    return text == "0" or (text[0] != "0" and len(text) <= MOST_DIGITS)


def read_count(size, parts):
    """One number of repetitions."""
    return [int(parts[0])] if len(parts) == 1 and is_count(parts[0]) else None


def mover_told(person):
    """The number of a person who moves, or `-` for nobody."""
    return "-" if person is None else str(person)


def tell_call(circle, numbers):
    """Call a chair, and tell who moves."""
    return mover_told(circle.call(numbers[0]))


def tell_all(circle, numbers):
    """Call several chairs, and tell who moves at each."""
    return " ".join([mover_told(person) for person in circle.call_all(numbers)])


def tell_undo(circle, numbers):
    """Undo, and tell whether there was something to revert."""
    return "yes" if circle.undo() else "no"


def tell_show(circle, numbers):
    """The line of the table."""
    return table_line(circle.chairs(), circle.table())


def tell_seats(circle, numbers):
    """Everybody's chairs."""
    return spaced(circle.seats())


def tell_steps(circle, numbers):
    """Everybody's steps."""
    return spaced(circle.steps())


def tell_repeat(circle, numbers):
    """The line of the table that many repetitions of the calls make of the beginning."""
    size = circle.chairs()
    return table_line(size, table_after_many(size, circle.begun(), circle.calls(), numbers[0]))


def tell_course(circle, numbers):
    """The course of the beginning and the calls."""
    return spaced(course(circle.chairs(), circle.begun(), circle.calls()))


def tell_fewest(circle, numbers):
    """The number of the fewest calls from the beginning to the table."""
    return str(fewest_calls(circle.chairs(), circle.begun(), circle.table()))


def tell_alike(circle, numbers):
    """Whether other calls move alike with all calls so far, or where they do not."""
    difference = moving_difference(circle.chairs(), len(circle), numbers, circle.calls())
    return "yes" if difference is None else spaced(difference)


READERS = {
    "call": read_chair,
    "all": read_chairs,
    "undo": read_nothing,
    "show": read_nothing,
    "seats": read_nothing,
    "steps": read_nothing,
    "repeat": read_count,
    "course": read_nothing,
    "fewest": read_nothing,
    "alike": read_chairs,
}

ACTIONS = {
    "call": tell_call,
    "all": tell_all,
    "undo": tell_undo,
    "show": tell_show,
    "seats": tell_seats,
    "steps": tell_steps,
    "repeat": tell_repeat,
    "course": tell_course,
    "fewest": tell_fewest,
    "alike": tell_alike,
}


def read_beginning(line):
    """The tuple (size, table) of the first line of a script."""
    try:
        return table_from(line)
    except BadLine:
        raise BadScript(0) from None


def read_command(size, line):
    """The tuple (word, numbers) of a line, or None if it is not a command."""
    # Two spaces together, or one at an end, make an empty part, which is no word and no number.
    parts = line.split(" ")
    word = parts[0]
    if word not in READERS:
        return None
    reader = READERS[word]
    numbers = reader(size, parts[1:])
    return None if numbers is None else (word, numbers)


def read_commands(size, lines):
    """The list of the commands of a script, whose first line is that of a table."""
    commands = []
    for at in range(1, len(lines)):
        command = read_command(size, lines[at])
        if command is None:
            raise BadScript(at)
        commands.append(command)
    return commands


def run(script):
    """The list of the results of all lines of a script but the first one."""
    lines = script.split("\n")
    size, table = read_beginning(lines[0])
    commands = read_commands(size, lines)
    circle = Circle(size, table)
    results = []
    for word, numbers in commands:
        action = ACTIONS[word]
        results.append(action(circle, numbers))
    return results
