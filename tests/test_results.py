import unittest

from nextstands.results import all_tables, beginnings_of, never_chairs, results_of, staying, sure_chairs
from tests.helpers import mixed_calls, shape, small_cases, some_calls, table_by_hand, tables_of


class AllTablesTest(unittest.TestCase):
    def test_every_size_and_number_of_people(self):
        for size, people in small_cases(10):
            found = all_tables(size, people)
            self.assertEqual(shape(found), shape(tables_of(size, people)))
            self.assertEqual(found, sorted(set(found)))

    def test_edges(self):
        self.assertEqual(all_tables(2, 1), [(0,), (1,)])
        self.assertEqual(all_tables(3, 2), [(0, 1), (0, 2), (1, 2)])
        self.assertEqual(len(all_tables(10, 5)), 252)
        self.assertEqual(all_tables(10, 9)[0], tuple(range(9)))
        self.assertEqual(all_tables(10, 9)[-1], tuple(range(1, 10)))


class ResultsTest(unittest.TestCase):
    def check(self, size, people, calls):
        """All functions against all tables, led on call by call."""
        tables = tables_of(size, people)
        led = {table: table_by_hand(size, table, calls) for table in tables}
        results = sorted(set(led.values()))
        self.assertEqual(shape(results_of(size, people, calls)), shape(results))
        self.assertEqual(
            shape(staying(size, people, calls)), shape([table for table in tables if led[table] == table]))
        self.assertEqual(
            shape(sure_chairs(size, people, calls)),
            shape([chair for chair in range(size) if all(chair in table for table in results)]))
        self.assertEqual(
            shape(never_chairs(size, people, calls)),
            shape([chair for chair in range(size) if not any(chair in table for table in results)]))
        return led

    def check_beginnings(self, size, calls, led, tables):
        for table in tables:
            self.assertEqual(
                shape(beginnings_of(size, calls, table)), shape([before for before in led if led[before] == table]))

    def test_small_sizes(self):
        for size, people in small_cases(6):
            for calls in some_calls(size):
                led = self.check(size, people, calls)
                self.check_beginnings(size, calls, led, list(led))

    def test_large_sizes(self):
        for size, people in small_cases(10):
            if size < 7:
                continue
            for many in (3, 120):
                calls = mixed_calls(size, many, people)
                led = self.check(size, people, calls)
                self.check_beginnings(size, calls, led, list(led)[::23] + list(led.values())[:2])

    def test_no_calls(self):
        for size, people in small_cases(10):
            tables = tables_of(size, people)
            self.assertEqual(results_of(size, people, []), tables)
            self.assertEqual(staying(size, people, []), tables)
            self.assertEqual(sure_chairs(size, people, []), [])
            self.assertEqual(never_chairs(size, people, []), [])
            for table in tables[::11]:
                self.assertEqual(beginnings_of(size, [], table), [table])

    def test_beginnings_of_a_table_that_is_no_result(self):
        self.assertEqual(shape(beginnings_of(4, [2], (0,))), shape([]))
        self.assertEqual(beginnings_of(3, [2], (0, 1)), [])
        self.assertEqual(beginnings_of(10, [4], (0, 1, 2, 3, 5, 6, 7, 8, 9)), [])

    def test_several_beginnings(self):
        self.assertEqual(beginnings_of(4, [2], (2,)), [(0,), (1,), (2,), (3,)])
        self.assertEqual(beginnings_of(4, [2], (0, 2)), [(0, 2), (0, 3)])
        self.assertEqual(beginnings_of(4, [2], [0, 2]), [(0, 2), (0, 3)])

    def test_every_table_begins_somewhere(self):
        for size, people in small_cases(7):
            calls = mixed_calls(size, 3, people)
            tables = tables_of(size, people)
            beginnings = [beginnings_of(size, calls, table) for table in tables]
            self.assertEqual(sorted(before for group in beginnings for before in group), tables)
            self.assertEqual(
                [table for table, group in zip(tables, beginnings) if group], results_of(size, people, calls))

    def test_the_last_chair_called_is_sure(self):
        for size, people in small_cases(8):
            for calls in some_calls(size):
                if calls:
                    self.assertIn(calls[-1], sure_chairs(size, people, calls))

    def test_chairs_that_are_surely_taken_or_free(self):
        self.assertEqual(sure_chairs(10, 1, [7]), [7])
        self.assertEqual(never_chairs(10, 1, [7]), [0, 1, 2, 3, 4, 5, 6, 8, 9])
        self.assertEqual(sure_chairs(3, 2, [2, 1]), [1])
        self.assertEqual(sure_chairs(3, 2, [1, 2]), [1, 2])
        self.assertEqual(never_chairs(3, 2, [1, 2]), [0])
        self.assertEqual(never_chairs(4, 3, [0]), [])


class ExamplesTest(unittest.TestCase):
    def test_section_9(self):
        for result, expected in (
            (all_tables(4, 2), [(0, 1), (0, 2), (0, 3), (1, 2), (1, 3), (2, 3)]),
            (results_of(4, 1, [2]), [(2,)]),
            (beginnings_of(3, [2], (0, 2)), [(0, 2)]),
            (staying(3, 2, [2]), [(0, 2), (1, 2)]),
            (sure_chairs(4, 2, [2]), [2]),
            (never_chairs(3, 1, [0]), [1, 2]),
        ):
            self.assertEqual(shape(result), shape(expected))
