import unittest

from nextstands.errors import NoNumber, NotWay, OtherPeople
from nextstands.ways import fewest_calls, fewest_steps, way_at, way_number, ways_many
from tests.helpers import ByHand, Search, TooMuchWork, mixed_calls, shape, small_cases, small_tables
from tests.helpers import tables_of, walked_by_hand, within

FAR = (-10 ** 5000, -10 ** 40, -100, -2, -1)


def far_beyond(many):
    """Integers that are no index among so many."""
    return FAR + (many, many + 1, many + 100, 10 ** 40, 10 ** 5000)


class SearchedTest(unittest.TestCase):
    def check_fewest(self, size, first, second, lists):
        self.assertEqual(shape(fewest_calls(size, first, second)), shape(len(lists[0])))
        self.assertEqual(shape(ways_many(size, first, second)), shape(len(lists)))
        walked = fewest_steps(size, first, second)
        for calls in lists:
            self.assertEqual(shape(walked), shape(walked_by_hand(size, first, calls)))

    def check_numbers(self, size, first, second, lists):
        for number, calls in enumerate(lists):
            self.assertEqual(shape(way_at(size, first, second, number)), shape(calls))
            self.assertEqual(shape(way_number(size, first, second, calls)), shape(number))
        for number in far_beyond(len(lists)):
            with self.assertRaises(NoNumber) as held:
                way_at(size, first, second, number)
            self.assertIs(held.exception.number, number)

    def test_all_pairs_of_small_sizes(self):
        for size, people in small_cases(7):
            search = Search(size, people)
            for first in search.tables:
                found = search.lists_from(first)
                self.assertEqual(sorted(found), search.tables)
                for second in found:
                    self.check_fewest(size, first, second, found[second])
                    self.check_numbers(size, first, second, found[second])

    def test_sizes_up_to_10(self):
        for size, people in small_cases(10):
            if size < 8:
                continue
            search = Search(size, people)
            for first in search.tables[people % 3::len(search.tables) // 3]:
                found = search.lists_from(first)
                self.assertEqual(sorted(found), search.tables)
                for second in found:
                    self.check_fewest(size, first, second, found[second])
                for second in search.tables[::len(search.tables) // 5]:
                    self.check_numbers(size, first, second, found[second])

    def test_the_most_ways_of_size_10(self):
        search = Search(10, 7)
        first = (0, 1, 3, 4, 6, 7, 8)
        found = search.lists_from(first)
        second = max(found, key=lambda table: len(found[table]))
        self.assertGreater(len(found[second]), 100)
        self.check_fewest(10, first, second, found[second])
        self.check_numbers(10, first, second, found[second])

    def test_everybody_moves_at_most_once(self):
        for size, people in ((5, 2), (6, 4), (9, 4), (10, 6)):
            tables = tables_of(size, people)
            for first in tables[::7]:
                for second in tables[::5]:
                    hand = ByHand(size, first)
                    way = way_at(size, first, second, ways_many(size, first, second) - 1)
                    movers = [hand.call(chair) for chair in way]
                    self.assertNotIn(None, movers)
                    self.assertEqual(len(set(movers)), len(movers))
                    self.assertEqual(hand.table(), second)
                    self.assertEqual(hand.walked, fewest_steps(size, first, second))


class SameTableTest(unittest.TestCase):
    def test_a_table_led_to_itself(self):
        for size, table in small_tables(10):
            self.assertEqual(fewest_calls(size, table, table), 0)
            self.assertEqual(ways_many(size, table, table), 1)
            self.assertEqual(fewest_steps(size, table, table), [0] * len(table))
            self.assertEqual(shape(way_at(size, table, table, 0)), shape([]))
            self.assertEqual(way_number(size, table, table, []), 0)

    def test_no_other_number_and_no_other_calls(self):
        for size, table in small_tables(5):
            for number in far_beyond(1):
                with self.assertRaises(NoNumber) as held:
                    way_at(size, table, table, number)
                self.assertIs(held.exception.number, number)
            # A call of a taken chair leads to the same table, but it is one call too many.
            for calls in ([table[0]], [table[-1]] * 3, list(range(size))):
                with self.assertRaises(NotWay) as held:
                    way_number(size, table, table, calls)
                self.assertIs(held.exception.way, calls)


class NotWayTest(unittest.TestCase):
    def assert_no_way(self, size, first, second, calls):
        before = shape(calls)
        with self.assertRaises(NotWay) as held:
            way_number(size, first, second, calls)
        self.assertIs(held.exception.way, calls)
        self.assertEqual(shape(calls), before)

    def test_too_short_and_too_long(self):
        for size, people in ((2, 1), (5, 2), (6, 3), (10, 4), (10, 9)):
            tables = tables_of(size, people)
            for first in tables[::9]:
                for second in tables[::4]:
                    way = way_at(size, first, second, 0)
                    for at in range(len(way)):
                        self.assert_no_way(size, first, second, way[:at])
                        self.assert_no_way(size, first, second, way[at + 1:])
                    # These lead to the second table as well, with a call that moves nobody.
                    self.assert_no_way(size, first, second, way + [second[-1]])
                    self.assert_no_way(size, first, second, [first[0]] + way)
                    self.assert_no_way(size, first, second, way + [second[0]] + way)
                    self.assert_no_way(size, first, second, mixed_calls(size, 120, 3))
                    self.assert_no_way(size, first, second, mixed_calls(size, 500, 3))

    def test_of_the_right_length_but_leading_elsewhere(self):
        for size, people in ((4, 1), (5, 2), (5, 4)):
            search = Search(size, people)
            for first in search.tables:
                found = search.lists_from(first)
                for second in found:
                    for other in found:
                        if other != second and len(found[other][0]) == len(found[second][0]):
                            for calls in found[other]:
                                self.assert_no_way(size, first, second, calls)

    def test_every_short_list_is_a_way_or_none(self):
        for size, people in ((2, 1), (3, 1), (3, 2), (4, 2), (4, 3)):
            search = Search(size, people)
            layer, lists = [[]], [[]]
            for _ in range(4):
                layer = [calls + [chair] for calls in layer for chair in range(size)]
                lists += layer
            for first in search.tables:
                found = search.lists_from(first)
                for second in found:
                    for calls in lists:
                        if calls in found[second]:
                            expected = found[second].index(calls)
                            self.assertEqual(way_number(size, first, second, calls), expected)
                        else:
                            self.assert_no_way(size, first, second, calls)

    def test_the_argument_itself(self):
        for calls in ([3, 1], (3, 1), [], (), [1], (1, 3, 3), [1, 3] * 60):
            self.assert_no_way(5, (0, 3), (1, 3), calls)
        self.assertEqual(way_number(5, [0, 3], [1, 3], (1, 3)), 0)


class OtherPeopleTest(unittest.TestCase):
    PAIRS = (
        (5, (0, 3), (2,)), (5, (2,), (0, 3)), (5, (0, 1, 2, 3), (4,)), (5, (4,), (0, 1, 2, 3)),
        (10, (0, 1, 2, 3, 4, 5, 6, 7, 8), (0, 9)), (3, (0,), (0, 1)), (3, (0, 1), (0,)),
    )

    def assert_other_people(self, many, function, *arguments):
        with self.assertRaises(OtherPeople) as held:
            function(*arguments)
        self.assertEqual(shape(held.exception.many), shape(many))

    def test_from_all_five_functions(self):
        for size, first, second in self.PAIRS:
            for one, other in ((first, second), (list(first), list(second))):
                self.assert_other_people(len(second), fewest_calls, size, one, other)
                self.assert_other_people(len(second), fewest_steps, size, one, other)
                self.assert_other_people(len(second), ways_many, size, one, other)
                self.assert_other_people(len(second), way_at, size, one, other, 0)
                self.assert_other_people(len(second), way_number, size, one, other, [])

    def test_ahead_of_no_number(self):
        for size, first, second in self.PAIRS:
            for number in far_beyond(1):
                self.assert_other_people(len(second), way_at, size, first, second, number)

    def test_ahead_of_not_way(self):
        for size, first, second in self.PAIRS:
            for calls in ([], [0], [second[0]], [first[0]], mixed_calls(size, 120, 1)):
                self.assert_other_people(len(second), way_number, size, first, second, calls)


class ManyWaysTest(unittest.TestCase):
    """Beyond the bounds, where there are too many ways to list them all."""

    SIZE = 30
    FIRST = tuple(range(1, 30, 2))
    SECOND = tuple(range(0, 30, 2))
    # Fifteen people who do not wait for each other.
    MANY = 1307674368000

    def test_counted_without_listing_them(self):
        self.assertEqual(within(100000, ways_many, self.SIZE, self.FIRST, self.SECOND), self.MANY)
        self.assertEqual(within(100000, fewest_calls, self.SIZE, self.FIRST, self.SECOND), 15)
        self.assertEqual(within(100000, fewest_steps, self.SIZE, self.FIRST, self.SECOND), [1] * 15)

    def test_numbered_and_found_without_listing_them(self):
        for number in (0, 1, self.MANY // 2, 123456789012, self.MANY - 2, self.MANY - 1):
            way = within(1000000, way_at, self.SIZE, self.FIRST, self.SECOND, number)
            self.assertEqual(within(1000000, way_number, self.SIZE, self.FIRST, self.SECOND, way), number)
            self.assertEqual(sorted(way), list(self.SECOND))
        first = way_at(self.SIZE, self.FIRST, self.SECOND, 0)
        self.assertEqual(first, list(self.SECOND))
        last = way_at(self.SIZE, self.FIRST, self.SECOND, self.MANY - 1)
        self.assertEqual(last, list(self.SECOND)[::-1])

    def test_no_number_without_listing_them(self):
        for number in far_beyond(self.MANY):
            with self.assertRaises(NoNumber) as held:
                within(100000, way_at, self.SIZE, self.FIRST, self.SECOND, number)
            self.assertIs(held.exception.number, number)

    def test_the_limit_stops_a_list_of_all(self):
        def listed():
            ways = []
            for number in range(self.MANY):
                ways.append(number)

        with self.assertRaises(TooMuchWork):
            within(100000, listed)


class ExamplesTest(unittest.TestCase):
    def test_section_7(self):
        for result, expected in (
            (fewest_calls(5, (0, 3), (1, 3)), 2),
            (fewest_steps(5, (0, 3), (1, 3)), [2, 2]),
            (way_at(5, (0, 3), (1, 3), 0), [1, 3]),
            (ways_many(5, (0, 3), (2, 4)), 2),
            (way_number(5, (0, 3), (2, 4), [4, 2]), 1),
        ):
            self.assertEqual(shape(result), shape(expected))

    def test_errors_of_section_7(self):
        with self.assertRaises(NoNumber) as held:
            way_at(5, (0, 3), (2, 4), 2)
        self.assertEqual(held.exception.number, 2)
        with self.assertRaises(NotWay) as held:
            way_number(5, (0, 3), (1, 3), [3, 1])
        self.assertEqual(held.exception.way, [3, 1])
        with self.assertRaises(OtherPeople) as held:
            fewest_calls(5, (0, 3), (2,))
        self.assertEqual(held.exception.many, 1)
