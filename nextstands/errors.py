"""The errors of the package.

No message shows the field: any value can be passed, and some values
(integers with very many digits) cannot be written out.
"""


class NotWay(ValueError):
    """The calls are none of the fewest that lead to the table."""

    def __init__(self, way):
        ValueError.__init__(self, "not one of the fewest calls")
        self.way = way


class BadLine(ValueError):
    """The line is not the line of a table."""

    def __init__(self, line):
        ValueError.__init__(self, "not the line of a table")
        self.line = line


class BadScript(ValueError):
    """The line with this index does not have the form of a command."""

    def __init__(self, line):
        ValueError.__init__(self, "a line of the script is not a command")
        self.line = line


class NoNumber(LookupError):
    """Nothing has this number."""

    def __init__(self, number):
        LookupError.__init__(self, "nothing has this number")
        self.number = number


class NoChair(LookupError):
    """The integer is not a chair."""

    def __init__(self, chair):
        LookupError.__init__(self, "not a chair")
        self.chair = chair


class OtherPeople(RuntimeError):
    """The second table has another number of people."""

    def __init__(self, many):
        RuntimeError.__init__(self, "the tables have different numbers of people")
        self.many = many
