"""When two lists of calls do the same at every table, and where they differ."""

from nextstands.packs import moves_of
from nextstands.results import all_led
from nextstands.tables import all_chairs


def all_differences(size, people, first, second):
    """The ascending list of all (chair, back) at which the calls move somebody by different steps."""
    ones = moves_of(size, people, first)
    others = moves_of(size, people, second)
    return [
        (chair, back)
        for chair in range(size)
        for back in range(people)
        if ones[chair][back] != others[chair][back]
    ]


def move_alike(size, people, first, second):
    """Whether both lists of calls move everybody by the same steps, at every table."""
    # The steps at every table follow from those in packs, so packs are enough.
    return moves_of(size, people, first) == moves_of(size, people, second)


def moving_difference(size, people, first, second):
    """The least (chair, back) at which the steps are different, or None."""
    differences = all_differences(size, people, first, second)
    return differences[0] if differences else None


def shows_difference(size, people, first, second, thing):
    """Whether the thing is a tuple (chair, back) at which the steps are different."""
    # True and False equal 1 and 0, so the kinds of the items are asked for first.
    if not isinstance(thing, tuple) or not all_chairs(size, thing):
        return False
    return thing in all_differences(size, people, first, second)


def lead_alike(size, people, first, second):
    """Whether both lists of calls lead every table to the same table."""
    return leading_difference(size, people, first, second) is None


def leading_difference(size, people, first, second):
    """The least table that the calls lead to different ones, or None."""
    ones = all_led(size, people, first)
    others = all_led(size, people, second)
    tables = [one[0] for one, other in zip(ones, others) if one != other]
    return tables[0] if tables else None
