import unittest

from nextstands.packs import followed, moves_of, pack, repeated, steps_by
from nextstands.tables import steps
from tests.helpers import TooMuchWork, mixed_calls, moves_by_hand, shape, small_cases, some_calls
from tests.helpers import tables_of, walked_by_hand, within

LARGEST = 10 ** 12


def many_times(size, moves, many):
    """`repeated`, stopped with an error if it does many repetitions one by one."""
    return within(1000000, repeated, size, moves, many)


def one_by_one(size, moves, many):
    result = moves
    for _ in range(many - 1):
        result = followed(size, result, moves)
    return result


class PackTest(unittest.TestCase):
    def test_neighbouring_chairs_up_to_the_end(self):
        for size, people in small_cases(10):
            for chair in range(size):
                expected = [(chair + size - back) % size for back in range(people)]
                self.assertEqual(shape(pack(size, people, chair)), shape(tuple(sorted(expected))))

    def test_edges(self):
        self.assertEqual(pack(2, 1, 0), (0,))
        self.assertEqual(pack(10, 9, 9), (1, 2, 3, 4, 5, 6, 7, 8, 9))
        self.assertEqual(pack(10, 9, 0), (0, 2, 3, 4, 5, 6, 7, 8, 9))
        self.assertEqual(pack(5, 3, 2), (0, 1, 2))
        self.assertEqual(pack(5, 3, 1), (0, 1, 4))


class MovesTest(unittest.TestCase):
    def test_against_the_packs_themselves(self):
        for size, people in small_cases(10):
            for calls in some_calls(size):
                self.assertEqual(
                    shape(moves_of(size, people, calls)), shape(moves_by_hand(size, people, calls)))

    def test_against_steps(self):
        for size, people in small_cases(6):
            calls = mixed_calls(size, 17, 3)
            moves = moves_of(size, people, calls)
            for end in range(size):
                table = pack(size, people, end)
                walked = steps(size, table, calls)
                for back in range(people):
                    self.assertEqual(moves[end][back], walked[table.index((end - back) % size)])

    def test_no_calls(self):
        self.assertEqual(moves_of(4, 2, []), ((0, 0),) * 4)


class StepsByTest(unittest.TestCase):
    def test_every_table_of_small_sizes(self):
        for size, people in small_cases(7):
            for calls in some_calls(size):
                moves = moves_of(size, people, calls)
                for table in tables_of(size, people):
                    told = steps_by(size, moves, table)
                    self.assertEqual(shape(told), shape(steps(size, table, calls)))
                    self.assertEqual(told, walked_by_hand(size, table, calls))

    def test_large_sizes(self):
        for size, people in ((9, 4), (10, 1), (10, 5), (10, 9)):
            calls = mixed_calls(size, 120, people)
            moves = moves_of(size, people, calls)
            for table in tables_of(size, people):
                self.assertEqual(steps_by(size, moves, table), walked_by_hand(size, table, calls))

    def test_after_many_repetitions(self):
        for size, people in small_cases(6):
            calls = mixed_calls(size, 5, people)
            moves = repeated(size, moves_of(size, people, calls), 24)
            for table in tables_of(size, people):
                self.assertEqual(steps_by(size, moves, table), walked_by_hand(size, table, calls * 24))


class FollowedTest(unittest.TestCase):
    def test_one_list_after_the_other(self):
        for size, people in small_cases(7):
            for first in some_calls(size):
                for second in ([], [size - 1], mixed_calls(size, 6, 1), mixed_calls(size, 60, 2)):
                    result = followed(size, moves_of(size, people, first), moves_of(size, people, second))
                    self.assertEqual(shape(result), shape(moves_by_hand(size, people, first + second)))

    def test_no_calls_before_or_after(self):
        for size, people in small_cases(10):
            still = moves_of(size, people, [])
            moves = moves_of(size, people, mixed_calls(size, 120, 4))
            self.assertEqual(followed(size, still, moves), moves)
            self.assertEqual(followed(size, moves, still), moves)
            self.assertEqual(followed(size, still, still), still)

    def test_large_sizes(self):
        for people in (1, 4, 9):
            first, second = mixed_calls(10, 60, 5), mixed_calls(10, 60, 6)
            self.assertEqual(
                followed(10, moves_of(10, people, first), moves_of(10, people, second)),
                moves_by_hand(10, people, first + second))


class RepeatedTest(unittest.TestCase):
    def test_calls_written_so_many_times(self):
        for size, people in small_cases(6):
            for length in (0, 1, 2, 4, 7):
                calls = mixed_calls(size, length, people)
                moves = moves_of(size, people, calls)
                for many in (0, 1, 2, 3, 4, 5, 6, 7, 8, 11, 16):
                    self.assertEqual(
                        shape(repeated(size, moves, many)), shape(moves_by_hand(size, people, calls * many)))

    def test_not_at_all_and_once(self):
        for size, people in small_cases(10):
            moves = moves_of(size, people, mixed_calls(size, 120, 8))
            self.assertEqual(repeated(size, moves, 0), ((0,) * people,) * size)
            self.assertEqual(repeated(size, moves, 1), moves)

    def test_two_parts(self):
        for size, people in ((2, 1), (5, 2), (7, 6), (10, 5)):
            moves = moves_of(size, people, mixed_calls(size, 30, people))
            for one, other in (
                (LARGEST - 1, 1), (1, LARGEST - 1), (LARGEST // 2, LARGEST // 2), (123456789012, 98765),
                (LARGEST - 77, 77), (0, LARGEST), (999, 1000),
            ):
                self.assertEqual(
                    many_times(size, moves, one + other),
                    followed(size, many_times(size, moves, one), many_times(size, moves, other)))

    def test_repetitions_of_repetitions(self):
        for size, people in ((5, 2), (10, 4)):
            moves = moves_of(size, people, mixed_calls(size, 20, people))
            self.assertEqual(
                many_times(size, many_times(size, moves, 10 ** 6), 10 ** 6), many_times(size, moves, LARGEST))

    def test_a_number_known_otherwise(self):
        # One person goes once round the table in each repetition.
        moves = moves_of(3, 1, [2, 1, 0])
        self.assertEqual(moves[0], (3,))
        self.assertEqual(many_times(3, moves, LARGEST)[0], (3 * LARGEST,))

    def test_not_one_by_one(self):
        moves = moves_of(10, 5, mixed_calls(10, 120, 9))
        self.assertEqual(len(many_times(10, moves, LARGEST)), 10)
        with self.assertRaises(TooMuchWork):
            within(1000000, one_by_one, 10, moves, LARGEST)


class ExamplesTest(unittest.TestCase):
    def test_section_5(self):
        for result, expected in (
            (pack(5, 2, 0), (0, 4)),
            (moves_of(5, 2, [2]), ((0, 2), (0, 3), (0, 0), (0, 0), (0, 1))),
            (steps_by(5, moves_of(5, 2, [2]), (0, 3)), [0, 1]),
            (followed(3, ((0,), (1,), (2,)), ((2,), (0,), (1,))), ((2,), (3,), (4,))),
            (repeated(3, ((0,), (1,), (2,)), 5), ((0,), (1,), (2,))),
        ):
            self.assertEqual(shape(result), shape(expected))
