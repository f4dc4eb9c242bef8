import unittest

from nextstands.tables import called, idle_calls, is_calls, is_table, mover
from nextstands.tables import seats_after, steps, table_after, tables_along
from tests.helpers import ByHand, mixed_calls, nested, shape, small_tables, tables_of

# Of every kind that `thing` may be, and neither a TABLE nor a list of chairs.
NEITHER = (
    0, 3, -1, 10 ** 40, True, False, None, "", "0", "03", "0 3",
    (True,), (False, 3), (0, True), [True], [0, False], (None,), [None], ("0", "3"), ["0"], ("", ),
    (0, None), [0, None], (0, "3"), [0, "3"], (0, (3,)), (0, [3]), [0, (3,)], [0, [3]], ((),), [[]],
    ((0, 3),), [(0, 3)], [[0, 3]], ([0, 3],), (None, 0), ("0", 3), ((0,), 3), ([0], 3),
    nested(0, 10, tuple), nested(0, 10, list), nested(None, 10, tuple), nested("", 10, list),
    nested((0, 3), 8, list), nested([0, 3], 8, tuple),
    (-1, 3), (-1,), (3, 5), (5,), (6,), (0, 10 ** 40), (-10 ** 40, 0),
    [-1], [0, -1], [5], [0, 5], [6, 0], [10 ** 40], [-10 ** 40],
)


class IsTableTest(unittest.TestCase):
    def test_every_table_is_one(self):
        for size, table in small_tables(6):
            self.assertIs(is_table(size, table), True)

    def test_edges_of_the_bounds(self):
        self.assertIs(is_table(2, (0,)), True)
        self.assertIs(is_table(2, (1,)), True)
        self.assertIs(is_table(10, tuple(range(9))), True)
        self.assertIs(is_table(10, tuple(range(1, 10))), True)

    def test_nothing_else_is_one(self):
        for thing in NEITHER:
            with self.subTest(thing=thing):
                self.assertIs(is_table(5, thing), False)

    def test_a_list_is_none(self):
        for thing in ([], [0], [0, 3], [0, 1, 2, 3]):
            self.assertIs(is_table(5, thing), False)

    def test_empty_and_all_chairs_taken(self):
        for size in range(2, 11):
            self.assertIs(is_table(size, ()), False)
            self.assertIs(is_table(size, tuple(range(size))), False)
            self.assertIs(is_table(size, tuple(range(size - 1))), True)

    def test_out_of_order_or_twice(self):
        for thing in ((3, 0), (0, 2, 1), (1, 0, 2), (0, 0), (3, 3), (0, 3, 3), (0, 0, 1), (0, 1, 0)):
            self.assertIs(is_table(5, thing), False)

    def test_chairs_depend_on_the_size(self):
        for size in range(2, 11):
            self.assertIs(is_table(size, (size - 1,)), True)
            self.assertIs(is_table(size, (size,)), False)
            self.assertIs(is_table(size, (size + 1,)), False)
            self.assertIs(is_table(size, (-1,)), False)


class IsCallsTest(unittest.TestCase):
    def test_lists_of_chairs(self):
        for thing in ([], [0], [4], [4, 4], [3, 0, 3, 1], [0, 1, 2, 3, 4], [4, 3, 2, 1, 0], [2] * 120, [1] * 500):
            self.assertIs(is_calls(5, thing), True)

    def test_nothing_else(self):
        for thing in NEITHER:
            with self.subTest(thing=thing):
                self.assertIs(is_calls(5, thing), False)

    def test_a_tuple_is_none(self):
        for thing in ((), (0,), (0, 3), (4, 4)):
            self.assertIs(is_calls(5, thing), False)

    def test_chairs_depend_on_the_size(self):
        for size in range(2, 11):
            self.assertIs(is_calls(size, [0, size - 1]), True)
            self.assertIs(is_calls(size, [0, size]), False)
            self.assertIs(is_calls(size, [size + 1, 0]), False)
            self.assertIs(is_calls(size, [0, -1]), False)


class OneCallTest(unittest.TestCase):
    def test_every_table_and_chair(self):
        for size, table in small_tables(7):
            for chair in range(size):
                hand = ByHand(size, table)
                person = hand.call(chair)
                self.assertEqual(shape(mover(size, table, chair)), shape(person))
                self.assertEqual(shape(called(size, table, chair)), shape(hand.table()))

    def test_a_taken_chair_moves_nobody(self):
        for size, table in small_tables(6):
            for chair in table:
                self.assertIsNone(mover(size, table, chair))
                self.assertEqual(called(size, table, chair), table)

    def test_round_the_end(self):
        self.assertEqual(mover(10, (2, 5), 6), 0)
        self.assertEqual(called(10, (2, 5), 6), (5, 6))
        self.assertEqual(mover(2, (0,), 1), 0)
        self.assertEqual(called(2, (0,), 1), (1,))

    def test_largest_tables(self):
        for table in tables_of(10, 9):
            for chair in range(10):
                hand = ByHand(10, table)
                self.assertEqual(mover(10, table, chair), hand.call(chair))
                self.assertEqual(called(10, table, chair), hand.table())


class ManyCallsTest(unittest.TestCase):
    def check(self, size, table, calls):
        hand = ByHand(size, table)
        along, idle = [table], []
        for at, chair in enumerate(calls):
            if hand.call(chair) is None:
                idle.append(at)
            along.append(hand.table())
        self.assertEqual(shape(table_after(size, table, calls)), shape(hand.table()))
        self.assertEqual(shape(tables_along(size, table, calls)), shape(along))
        self.assertEqual(shape(idle_calls(size, table, calls)), shape(idle))
        self.assertEqual(shape(steps(size, table, calls)), shape(hand.walked))
        self.assertEqual(shape(seats_after(size, table, calls)), shape(hand.seats))

    def test_no_calls(self):
        for size, table in small_tables(6):
            self.check(size, table, [])
            self.assertEqual(table_after(size, table, []), table)
            self.assertEqual(tables_along(size, table, []), [table])
            self.assertEqual(idle_calls(size, table, []), [])
            self.assertEqual(steps(size, table, []), [0] * len(table))
            self.assertEqual(seats_after(size, table, []), list(table))

    def test_one_call(self):
        for size, table in small_tables(5):
            for chair in range(size):
                self.check(size, table, [chair])

    def test_some_calls(self):
        for size, table in small_tables(7):
            for many in (2, 3, 9):
                self.check(size, table, mixed_calls(size, many, many))

    def test_120_calls(self):
        for size in range(2, 11):
            for people in sorted({1, size // 2, size - 1}):
                for table in tables_of(size, people)[::7]:
                    self.check(size, table, mixed_calls(size, 120, people))

    def test_people_keep_their_numbers(self):
        # Person 0 passes below chair 0 and sits behind the others from then on.
        self.assertEqual(seats_after(5, (0, 3), [4]), [4, 3])
        self.assertEqual(steps(5, (0, 3), [4]), [1, 0])
        self.assertEqual(table_after(5, (0, 3), [4]), (3, 4))
        # The call of 1 then moves the one on chair 3, who is still number 1.
        self.assertEqual(seats_after(5, (0, 3), [4, 1]), [4, 1])
        self.assertEqual(steps(5, (0, 3), [4, 1]), [1, 2])

    def test_steps_count_every_turn_round_the_table(self):
        self.assertEqual(steps(3, (0,), [2, 1, 0] * 40), [120])
        self.assertEqual(steps(10, (0,), [1, 2, 3]), [27])
        self.assertEqual(seats_after(3, (0,), [2, 1, 0] * 40), [0])


class ExamplesTest(unittest.TestCase):
    def test_section_4(self):
        for result, expected in (
            (is_table(5, (0, 3)), True),
            (is_calls(5, [4, 4]), True),
            (mover(5, (0, 3), 1), 1),
            (called(5, (0, 3), 1), (0, 1)),
            (table_after(5, (0, 3), [1, 4, 3]), (1, 3)),
            (tables_along(5, (0, 3), [1, 4]), [(0, 3), (0, 1), (1, 4)]),
            (idle_calls(5, (0, 3), [3, 1, 3]), [0]),
            (steps(5, (0, 3), [1, 4, 3]), [2, 2]),
            (seats_after(5, (0, 3), [1, 4, 3]), [3, 1]),
        ):
            self.assertEqual(shape(result), shape(expected))
