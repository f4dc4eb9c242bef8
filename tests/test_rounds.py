import unittest
from fractions import Fraction

from nextstands.packs import moves_of, repeated, steps_by
from nextstands.rounds import average, course, steps_after_many, table_after_many
from nextstands.tables import seats_after, table_after
from tests.helpers import ByHand, TooMuchWork, course_by_hand, mixed_calls, shape, small_cases, small_tables
from tests.helpers import some_calls, table_by_hand, tables_of, walked_by_hand, within

LARGEST = 10 ** 12
NUMBERS = (
    LARGEST, LARGEST - 1, LARGEST - 2, LARGEST // 2, LARGEST // 3, 123456789012, 2 ** 39, 2 ** 39 - 1, 10 ** 6 + 7)


def table_many(size, table, calls, many):
    """`table_after_many`, stopped with an error if it does many repetitions one by one."""
    return within(1000000, table_after_many, size, table, calls, many)


def steps_many(size, table, calls, many):
    """`steps_after_many`, stopped likewise."""
    return within(1000000, steps_after_many, size, table, calls, many)


def table_by_course(size, table, calls, many):
    """The table after many repetitions, of which only those up to the end of the period are done."""
    lead, period = course_by_hand(size, table, calls)
    return table_by_hand(size, table, calls * (lead + (many - lead) % period))


def steps_by_course(size, table, calls, many):
    """The steps in many repetitions: once those that do not return, and the periods as often as they fit."""
    lead, period = course_by_hand(size, table, calls)
    # After as many periods as there are people, everybody is back on the same chair.
    block = period * len(table)
    blocks, rest = divmod(many - lead, block)
    once = walked_by_hand(size, table, calls * (lead + rest))
    more = walked_by_hand(size, table, calls * (lead + rest + block))
    return [few + blocks * (lot - few) for few, lot in zip(once, more)]


def average_by_hand(size, table, calls):
    """Everybody's average from this table, over as many periods as there are people."""
    lead, period = course_by_hand(size, table, calls)
    block = period * len(table)
    hand = ByHand(size, table)
    for chair in calls * lead:
        hand.call(chair)
    seats, walked = list(hand.seats), list(hand.walked)
    for chair in calls * block:
        hand.call(chair)
    assert hand.seats == seats
    return [Fraction(after - before, block) for before, after in zip(walked, hand.walked)]


class CourseTest(unittest.TestCase):
    def test_every_table_of_small_sizes(self):
        seen = []
        for size, table in small_tables(6):
            for calls in some_calls(size):
                told = course(size, table, calls)
                self.assertEqual(shape(told), shape(course_by_hand(size, table, calls)))
                seen.append(told)
        self.assertGreater(len([lead for lead, period in seen if lead == 0]), 100)
        self.assertGreater(len([lead for lead, period in seen if lead > 1]), 10)
        self.assertGreater(len([period for lead, period in seen if period > 1]), 100)
        self.assertGreater(len([period for lead, period in seen if lead > 0 and period > 1]), 10)

    def test_no_calls(self):
        for size, table in small_tables(10):
            self.assertEqual(shape(course(size, table, [])), shape((0, 1)))

    def test_the_lead_and_the_period_are_the_least(self):
        for size, table in small_tables(6):
            for length in (1, 2, 3, 5, 9):
                calls = mixed_calls(size, length, length)
                lead, period = course(size, table, calls)
                along = [table]
                for _ in range(lead + 2 * period):
                    along.append(table_after(size, along[-1], calls))
                self.assertEqual(len(set(along)), lead + period)
                self.assertEqual(along[lead], along[lead + period])
                self.assertEqual(along[lead:lead + period + 1], along[lead + period:])
                if lead > 0:
                    self.assertNotEqual(along[lead - 1], along[lead + period - 1])

    def test_sizes_up_to_10(self):
        for size, people in small_cases(10):
            if size < 7:
                continue
            tables = tables_of(size, people)
            for length in (1, 4, 120):
                calls = mixed_calls(size, length, people)
                for table in tables[people % 3::len(tables) // 3]:
                    self.assertEqual(shape(course(size, table, calls)), shape(course_by_hand(size, table, calls)))

    def test_known_ones(self):
        # One person stays on the chair that is called last.
        for size in range(2, 11):
            for seat in range(size):
                self.assertEqual(course(size, (seat,), [0]), (min(seat, 1), 1))
                self.assertEqual(course(size, (seat,), list(range(size))), (int(seat != size - 1), 1))
        self.assertEqual(course(3, (0, 2), [1]), (1, 1))
        self.assertEqual(course(5, (0, 3), [1, 4, 3, 3]), (1, 2))

    def test_longest_lead_and_period_of_short_lists(self):
        told = [
            course(size, table, mixed_calls(size, length, seed))
            for size, table in small_tables(7) for length in (2, 3) for seed in range(5)]
        expected = [
            course_by_hand(size, table, mixed_calls(size, length, seed))
            for size, table in small_tables(7) for length in (2, 3) for seed in range(5)]
        self.assertEqual(told, expected)


class AfterManyTest(unittest.TestCase):
    def test_one_by_one_for_small_numbers(self):
        for size, table in small_tables(5):
            for calls in some_calls(size):
                hand = ByHand(size, table)
                for many in range(7):
                    self.assertEqual(shape(table_after_many(size, table, calls, many)), shape(hand.table()))
                    self.assertEqual(shape(steps_after_many(size, table, calls, many)), shape(hand.walked))
                    for chair in calls:
                        hand.call(chair)

    def test_more_repetitions_one_by_one(self):
        for size, people in ((2, 1), (6, 3), (7, 2), (9, 8), (10, 5)):
            for table in tables_of(size, people)[::11]:
                calls = mixed_calls(size, 6, people)
                hand = ByHand(size, table)
                for many in range(70):
                    if many in (7, 8, 15, 16, 31, 33, 50, 63, 64, 69):
                        self.assertEqual(table_after_many(size, table, calls, many), hand.table())
                        self.assertEqual(steps_after_many(size, table, calls, many), hand.walked)
                    for chair in calls:
                        hand.call(chair)

    def test_not_at_all_and_once(self):
        for size, table in small_tables(7):
            for calls in ([], [size - 1], mixed_calls(size, 120, len(table))):
                self.assertEqual(shape(table_after_many(size, table, calls, 0)), shape(table))
                self.assertEqual(shape(steps_after_many(size, table, calls, 0)), shape([0] * len(table)))
                self.assertEqual(table_after_many(size, table, calls, 1), table_by_hand(size, table, calls))
                self.assertEqual(steps_after_many(size, table, calls, 1), walked_by_hand(size, table, calls))

    def test_no_calls(self):
        for size, people in small_cases(10):
            table = tables_of(size, people)[-1]
            for many in (0, 1, LARGEST):
                self.assertEqual(table_many(size, table, [], many), table)
                self.assertEqual(steps_many(size, table, [], many), [0] * people)

    def test_large_numbers_against_the_course(self):
        for size, people in small_cases(6):
            for table in tables_of(size, people)[::4]:
                for length in (2, 7):
                    calls = mixed_calls(size, length, people + length)
                    for many in NUMBERS[:7]:
                        self.assertEqual(
                            shape(table_many(size, table, calls, many)),
                            shape(table_by_course(size, table, calls, many)))

    def test_large_numbers_against_the_steps_of_the_period(self):
        for size, people in small_cases(6):
            for table in tables_of(size, people)[::4]:
                for length in (2, 7):
                    calls = mixed_calls(size, length, people + length)
                    for many in NUMBERS[:7]:
                        self.assertEqual(
                            shape(steps_many(size, table, calls, many)),
                            shape(steps_by_course(size, table, calls, many)))

    def test_large_numbers_at_large_sizes(self):
        for size, people in ((8, 3), (9, 8), (10, 1), (10, 5), (10, 9)):
            tables = tables_of(size, people)
            for table in (tables[0], tables[len(tables) // 2], tables[-1]):
                calls = mixed_calls(size, 120, people)
                for many in NUMBERS[:3]:
                    self.assertEqual(
                        table_many(size, table, calls, many), table_by_course(size, table, calls, many))
                    self.assertEqual(
                        steps_many(size, table, calls, many), steps_by_course(size, table, calls, many))

    def test_large_numbers_against_the_moves(self):
        for size, people in ((2, 1), (5, 2), (7, 4), (10, 5)):
            calls = mixed_calls(size, 9, size)
            tables = tables_of(size, people)
            for many in NUMBERS[::3]:
                moves = within(1000000, repeated, size, moves_of(size, people, calls), many)
                for table in tables[::len(tables) // 10 + 1]:
                    self.assertEqual(steps_many(size, table, calls, many), steps_by(size, moves, table))

    def test_the_steps_lead_to_the_table(self):
        for size, people in ((3, 2), (6, 3), (10, 4)):
            calls = mixed_calls(size, 11, people)
            tables = tables_of(size, people)
            for many in NUMBERS[::4]:
                for table in tables[::len(tables) // 6 + 1]:
                    walked = steps_many(size, table, calls, many)
                    seats = [(seat - far) % size for seat, far in zip(table, walked)]
                    self.assertEqual(tuple(sorted(seats)), table_many(size, table, calls, many))

    def test_once_more(self):
        for size, table in small_tables(5):
            calls = mixed_calls(size, 4, len(table))
            for many in (3, 12345, LARGEST - 1):
                before = table_many(size, table, calls, many)
                self.assertEqual(table_many(size, table, calls, many + 1), table_after(size, before, calls))

    def test_a_number_known_otherwise(self):
        self.assertEqual(steps_many(3, (0,), [2, 1, 0], LARGEST), [3 * LARGEST])
        # After the first repetition, each of the two goes to the other's chair again and again.
        self.assertEqual(steps_many(10, (0, 5), [9, 4, 8, 3], LARGEST), [2 + 5 * (LARGEST - 1)] * 2)
        self.assertEqual(table_many(10, (0, 5), [9, 4, 8, 3], LARGEST), (3, 8))

    def test_the_limit_stops_repetitions_one_by_one(self):
        def one_by_one():
            seats = (0, 3)
            for _ in range(LARGEST):
                seats = seats_after(5, seats, [1, 4])

        with self.assertRaises(TooMuchWork):
            within(1000000, one_by_one)


class AverageTest(unittest.TestCase):
    def check(self, size, people, calls, tables):
        told = average(size, people, calls)
        self.assertEqual(shape(told), shape((told[0], told[1])))
        for table in tables:
            for found in average_by_hand(size, table, calls):
                self.assertEqual(shape(told), shape((found.numerator, found.denominator)))
        return told

    def test_everybody_at_every_table_of_small_sizes(self):
        seen = []
        for size, people in small_cases(5):
            for calls in some_calls(size):
                seen.append(self.check(size, people, calls, tables_of(size, people)))
        for length in (2, 3, 4, 5):
            for seed in range(8):
                seen.append(self.check(6, 3, mixed_calls(6, length, seed), tables_of(6, 3)))
        self.assertIn((0, 1), seen)
        self.assertGreater(len({denominator for numerator, denominator in seen}), 2)
        self.assertGreater(len([numerator for numerator, denominator in seen if numerator > denominator]), 10)

    def test_sizes_up_to_10(self):
        for size, people in small_cases(10):
            if size < 6:
                continue
            tables = tables_of(size, people)
            for length in (1, 5, 60):
                self.check(size, people, mixed_calls(size, length, people), tables[::len(tables) // 2])

    def test_nobody_moves_in_the_long_run(self):
        for size, people in small_cases(10):
            self.assertEqual(shape(average(size, people, [])), shape((0, 1)))
            self.assertEqual(shape(average(size, people, [0])), shape((0, 1)))
            self.assertEqual(shape(average(size, people, list(range(people)) * 3)), shape((0, 1)))

    def test_once_round_the_table(self):
        for size in range(2, 11):
            backwards = list(range(size))[::-1]
            self.assertEqual(average(size, 1, backwards), (size, 1))
            self.assertEqual(average(size, 1, backwards * 3), (3 * size, 1))
            # With one free chair, each call of it moves one person by one chair.
            self.assertEqual(average(size, size - 1, list(range(size))), (Fraction(size, size - 1)).as_integer_ratio())

    def test_large_numbers_approach_it(self):
        for size, people in ((4, 2), (5, 2), (7, 5), (10, 6)):
            for seed in range(4):
                calls = mixed_calls(size, 5, seed)
                numerator, denominator = average(size, people, calls)
                for table in tables_of(size, people)[::29]:
                    for walked in steps_many(size, table, calls, LARGEST):
                        self.assertLess(abs(walked * denominator - numerator * LARGEST), 10 ** 5 * denominator)


class ExamplesTest(unittest.TestCase):
    def test_section_8(self):
        for result, expected in (
            (course(5, (0, 3), [1, 4, 3, 3]), (1, 2)),
            (table_after_many(5, (0, 3), [1, 4, 3, 3], 2), (3, 4)),
            (steps_after_many(5, (0, 3), [1, 4], 2), [1, 2]),
            (average(3, 1, [0, 1, 2]), (6, 1)),
            (average(5, 2, [1, 4, 3, 3]), (5, 4)),
        ):
            self.assertEqual(shape(result), shape(expected))
