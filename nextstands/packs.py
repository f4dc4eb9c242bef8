"""Packs of neighbouring people, and what calls do to every table, told from the packs alone."""

from nextstands.tables import as_table, steps


def pack_seats(size, people, chair):
    """The chairs of the pack that ends at this chair, from its last one backwards."""
    return [(chair - back) % size for back in range(people)]


def pack(size, people, chair):
    """The pack that ends at this chair."""
    return tuple(sorted(pack_seats(size, people, chair)))


def moves_of(size, people, calls):
    """The moves of the calls: for the pack that ends at each chair, the steps from its last chair backwards."""
    return tuple([tuple(steps(size, pack_seats(size, people, chair), calls)) for chair in range(size)])


def steps_of_one(size, moves, table, seat):
    """The steps of the person on this seat of a table, for any calls with these moves."""
    # Sorted, the index of a distance is the number of people on the chairs up to there.
    distances = sorted([(other - seat) % size for other in table])
    return max([
        moves[(seat + distance) % size][people] - (distance - people)
        for people, distance in enumerate(distances)
    ])


def steps_by(size, moves, table):
    """The list of the steps of all people at a table, for any calls with these moves."""
    return [steps_of_one(size, moves, table, seat) for seat in table]


def table_by(size, moves, table):
    """The table after any calls with these moves."""
    walked = steps_by(size, moves, table)
    return as_table([(seat - many) % size for seat, many in zip(table, walked)])


def pack_followed(size, chair, walked, second):
    """The steps of the pack that ends at this chair: those already walked, and those of the second moves."""
    seats = [(chair - back - many) % size for back, many in enumerate(walked)]
    return tuple([many + more for many, more in zip(walked, steps_by(size, second, seats))])


def followed(size, first, second):
    """The moves of two lists of calls, one after the other."""
    return tuple([pack_followed(size, chair, first[chair], second) for chair in range(size)])


def repeated(size, moves, many):
    """The moves of so many repetitions."""
    result = moves_of(size, len(moves[0]), [])
    power = moves
    left = many
    # Doubling: a number up to 10 ** 12 takes 40 turns instead of one for each repetition.
    while left > 0:
        if left % 2 == 1:
            result = followed(size, result, power)
        power = followed(size, power, power)
        left = left // 2
    return result
