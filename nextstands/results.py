"""Which tables can result from calls, and from which ones."""

from nextstands.packs import moves_of, table_by


def all_tables(size, people):
    """The ascending list of all tables."""
    found = [()]
    for taken in range(people):
        # Each table goes on behind its last chair, so the order stays ascending.
        found = [
            table + (chair,)
            for table in found
            for chair in range(size)
            if not table or table[-1] < chair
        ]
    return found


def all_led(size, people, calls):
    """For each table, in ascending order: the table, and the one that the calls lead it to."""
    # The packs tell what happens at every table, so the calls are not made anew at each.
    moves = moves_of(size, people, calls)
    return [(table, table_by(size, moves, table)) for table in all_tables(size, people)]


def results_of(size, people, calls):
    """The ascending list of the results."""
    return sorted({after for before, after in all_led(size, people, calls)})


def beginnings_of(size, calls, table):
    """The ascending list of the tables that are led to this one."""
    wanted = tuple(table)
    return [before for before, after in all_led(size, len(table), calls) if after == wanted]


def staying(size, people, calls):
    """The ascending list of the tables that are led to themselves."""
    return [before for before, after in all_led(size, people, calls) if before == after]


def sure_chairs(size, people, calls):
    """The ascending list of the chairs that are taken in every result."""
    results = results_of(size, people, calls)
    return [chair for chair in range(size) if all([chair in table for table in results])]


def never_chairs(size, people, calls):
    """The ascending list of the chairs that are free in every result."""
    results = results_of(size, people, calls)
    return [chair for chair in range(size) if all([chair not in table for table in results])]
