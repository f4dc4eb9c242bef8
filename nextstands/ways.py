"""The fewest calls from one table to another, counted and numbered.

In the fewest calls everybody moves at most once. Who moves to the chair of
the person before, or beyond it, waits for that person, and for nobody else.
So the people who move fall into chains: in each chain the order is fixed,
and different chains do not depend on each other. The ways are the orders in
which the chains can be mixed. A chain is the list of the chairs to be called.
"""

from nextstands.errors import NoNumber, NotWay, OtherPeople


def spot(size, table, number):
    """Where the person with this number sits, if the numbers and the chairs are counted on round by round."""
    return number // len(table) * size + table[number % len(table)]


def steps_with(size, first, second, shift):
    """Everybody's steps to the chair of the person `shift` numbers before in the second table."""
    return [seat - spot(size, second, person - shift) for person, seat in enumerate(first)]


def fewest_steps(size, first, second):
    """The list of the steps of the people of the first table in the fewest calls to the second one."""
    if len(first) != len(second):
        raise OtherPeople(len(second))
    shift = 0
    # Nobody passes anybody, so all shift alike; nobody moves clockwise, so no steps are below 0.
    while any([many < 0 for many in steps_with(size, first, second, shift)]):
        shift += 1
    return steps_with(size, first, second, shift)


def fewest_calls(size, first, second):
    """The least length of calls that lead the first table to the second one."""
    return len([many for many in fewest_steps(size, first, second) if many > 0])


def distance_before(size, table, person):
    """By how many chairs the person sits after the one before: once round the table if alone."""
    return (table[person] - table[person - 1] - 1) % size + 1


def chain_people(waiting, person):
    """The people of the chain that begins with this person."""
    people = [person]
    after = (person + 1) % len(waiting)
    # This ends, at the latest, at the first person, who waits for nobody.
    while waiting[after]:
        people.append(after)
        after = (after + 1) % len(waiting)
    return people


def chains_between(size, first, second):
    """The list of the chains of the fewest calls."""
    walked = fewest_steps(size, first, second)
    waiting = [many >= distance_before(size, first, person) for person, many in enumerate(walked)]
    aims = [(seat - many) % size for seat, many in zip(first, walked)]
    return [
        [aims[member] for member in chain_people(waiting, person)]
        for person, many in enumerate(walked)
        if many > 0 and not waiting[person]
    ]


def orders_many(many):
    """The number of orders of so many different things."""
    product = 1
    for factor in range(2, many + 1):
        product *= factor
    return product


def mixed_many(chains):
    """The number of orders in which the chains can be mixed."""
    result = orders_many(sum([len(chain) for chain in chains]))
    for chain in chains:
        result = result // orders_many(len(chain))
    return result


def chains_after(chains, chair):
    """The chains that are left when this chair, the first one of a chain, has been called."""
    shorter = [chain[1:] if chain[0] == chair else chain for chain in chains]
    return [chain for chain in shorter if chain]


def next_chairs(chains):
    """The list of the chairs that can be called next."""
    return [chain[0] for chain in chains]


def lesser_many(chains, chair):
    """The number of the ways that begin with a lesser chair."""
    return sum([mixed_many(chains_after(chains, other)) for other in next_chairs(chains) if other < chair])


def ways_many(size, first, second):
    """The number of the lists of the fewest calls."""
    return mixed_many(chains_between(size, first, second))


def way_at(size, first, second, number):
    """The list of the fewest calls with this index, in ascending order."""
    chains = chains_between(size, first, second)
    if not 0 <= number < mixed_many(chains):
        raise NoNumber(number)
    way = []
    left = number
    while chains:
        # The last chair that not too many ways precede is the one that the way begins with.
        chair = max([other for other in next_chairs(chains) if lesser_many(chains, other) <= left])
        way.append(chair)
        left -= lesser_many(chains, chair)
        chains = chains_after(chains, chair)
    return way


def way_number(size, first, second, calls):
    """The index of these calls among the lists of the fewest calls."""
    chains = chains_between(size, first, second)
    number = 0
    for chair in calls:
        if chair not in next_chairs(chains):
            raise NotWay(calls)
        number += lesser_many(chains, chair)
        chains = chains_after(chains, chair)
    if chains:
        raise NotWay(calls)
    return number
