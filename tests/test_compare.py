import unittest

from nextstands.compare import lead_alike, leading_difference, move_alike, moving_difference, shows_difference
from tests.helpers import as_lists, mixed_calls, moves_by_hand, nested, shape, small_cases
from tests.helpers import table_by_hand, tables_of, walked_by_hand


def short_lists(size, longest):
    """All lists of at most so many calls."""
    layer = [[]]
    found = [[]]
    for _ in range(longest):
        layer = [calls + [chair] for calls in layer for chair in range(size)]
        found += layer
    return found


def pairs_of_lists(size):
    """Pairs of lists: all short ones of small sizes, and longer ones that do the same or nearly so."""
    short = short_lists(size, 2 if size < 4 else 1)
    for first in short:
        for second in short:
            yield first, second
    for many in (3, 6, 20, 60):
        calls = mixed_calls(size, many, many)
        yield calls, list(calls)
        yield calls, calls + calls[-1:]
        yield calls, calls[:1] + calls
        yield calls, calls[:-1]
        yield calls, calls[1:]
        yield calls, calls[::-1]
        yield calls, mixed_calls(size, many, many + 1)
        yield [chair for chair in calls for _ in range(2)], calls
        yield calls + calls, calls


def differences_by_hand(size, people, first, second):
    one, other = moves_by_hand(size, people, first), moves_by_hand(size, people, second)
    return [
        (chair, back) for chair in range(size) for back in range(people) if one[chair][back] != other[chair][back]]


class MovingTest(unittest.TestCase):
    def test_against_the_steps_in_all_packs(self):
        for size, people in small_cases(7):
            for first, second in pairs_of_lists(size):
                every = differences_by_hand(size, people, first, second)
                expected = min(every) if every else None
                self.assertIs(move_alike(size, people, first, second), not every)
                self.assertEqual(shape(moving_difference(size, people, first, second)), shape(expected))

    def test_against_the_steps_at_every_table(self):
        seen = []
        for size, people in small_cases(6):
            for first, second in pairs_of_lists(size):
                alike = all(
                    walked_by_hand(size, table, first) == walked_by_hand(size, table, second)
                    for table in tables_of(size, people))
                self.assertIs(move_alike(size, people, first, second), alike)
                self.assertIs(moving_difference(size, people, first, second) is None, alike)
                seen.append(alike)
        self.assertGreater(seen.count(True), 100)
        self.assertGreater(seen.count(False), 100)

    def test_large_sizes(self):
        for size, people in ((8, 3), (9, 8), (10, 1), (10, 5), (10, 9)):
            for many in (9, 60, 120):
                first, second = mixed_calls(size, many, 1), mixed_calls(size, many, 2)
                every = differences_by_hand(size, people, first, second)
                self.assertEqual(moving_difference(size, people, first, second), every[0] if every else None)
                self.assertIs(move_alike(size, people, first, second), not every)
                self.assertIs(move_alike(size, people, first, list(first)), True)

    def test_the_same_list_twice(self):
        for size, people in small_cases(8):
            for many in (0, 1, 5, 120):
                calls = mixed_calls(size, many, people)
                self.assertIs(move_alike(size, people, calls, calls), True)
                self.assertIsNone(moving_difference(size, people, calls, calls))
                self.assertIs(move_alike(size, people, calls, tuple(calls)), True)
                self.assertIsNone(moving_difference(size, people, tuple(calls), calls))

    def test_either_list_first(self):
        for size, people in small_cases(6):
            for first, second in pairs_of_lists(size):
                self.assertEqual(
                    move_alike(size, people, first, second), move_alike(size, people, second, first))
                self.assertEqual(
                    moving_difference(size, people, first, second), moving_difference(size, people, second, first))

    def test_a_difference_that_is_not_at_the_first_pack(self):
        # Calls of 0 do nothing to the pack that ends at 0 and move the one that ends at 1.
        self.assertEqual(moving_difference(3, 1, [], [0]), (1, 0))
        self.assertEqual(moving_difference(5, 2, [], [0]), (2, 1))
        self.assertEqual(moving_difference(5, 2, [], [2]), (0, 1))

    def test_alike_though_the_lists_differ(self):
        self.assertIs(move_alike(2, 1, [0, 0, 0], [0]), True)
        self.assertIsNone(moving_difference(2, 1, [0, 0, 0], [0]))
        # Chairs that are far apart may be called in either order, if there are enough people.
        self.assertIs(move_alike(4, 3, [0, 2], [2, 0]), True)
        self.assertIs(move_alike(4, 1, [0, 2], [2, 0]), False)

    def test_alike_for_some_numbers_of_people_only(self):
        calls = [0, 2]
        told = [move_alike(4, people, calls, calls[::-1]) for people in (1, 2, 3)]
        by_hand = [not differences_by_hand(4, people, calls, calls[::-1]) for people in (1, 2, 3)]
        self.assertEqual(told, by_hand)
        self.assertIn(True, told)
        self.assertIn(False, told)


class ShowsDifferenceTest(unittest.TestCase):
    # Here the steps are different at seven of the ten (chair, back).
    CASE = (5, 2, [1, 4, 2], [2])

    def test_the_least_difference_and_all_others(self):
        for size, people in small_cases(5):
            for first, second in pairs_of_lists(size):
                every = differences_by_hand(size, people, first, second)
                for chair in range(-1, size + 1):
                    for back in range(-1, people + 1):
                        self.assertIs(
                            shows_difference(size, people, first, second, (chair, back)), (chair, back) in every)
                if every:
                    least = moving_difference(size, people, first, second)
                    self.assertIs(shows_difference(size, people, first, second, least), True)

    def test_lists_instead_of_tuples(self):
        for thing in differences_by_hand(*self.CASE):
            self.assertIs(shows_difference(*self.CASE, thing), True)
            self.assertIs(shows_difference(*self.CASE, as_lists(thing)), False)
            self.assertIs(shows_difference(*self.CASE, (thing,)), False)
            self.assertIs(shows_difference(*self.CASE, [thing]), False)

    def test_true_and_false_instead_of_integers(self):
        size, people, first, second = 3, 2, [], [0, 1, 2, 0]
        every = differences_by_hand(size, people, first, second)
        pairs = [(chair, back) for chair in (0, 1) for back in (0, 1)]
        shown = [pair for pair in pairs if pair in every]
        self.assertGreaterEqual(len(shown), 3)
        for chair, back in pairs:
            for thing in ((bool(chair), back), (chair, bool(back)), (bool(chair), bool(back))):
                self.assertIs(shows_difference(size, people, first, second, thing), False)
            self.assertIs(
                shows_difference(size, people, first, second, (chair, back)), (chair, back) in shown)

    def test_a_chair_or_a_place_that_is_too_small_or_too_large(self):
        size, people = 5, 2
        calls = [4, 3, 2, 1, 0]
        self.assertEqual(len(differences_by_hand(size, people, [], calls * 2)), size * people)
        for chair in (-10 ** 40, -6, -5, -2, -1, 5, 6, 9, 10, 10 ** 40):
            for back in (0, 1):
                self.assertIs(shows_difference(size, people, [], calls * 2, (chair, back)), False)
        for back in (-10 ** 40, -5, -2, -1, 2, 3, 4, 5, 10 ** 40):
            for chair in range(size):
                self.assertIs(shows_difference(size, people, [], calls * 2, (chair, back)), False)
        for chair in range(size):
            for back in range(people):
                self.assertIs(shows_difference(size, people, [], calls * 2, (chair, back)), True)

    def test_tuples_of_other_lengths(self):
        for chair, back in differences_by_hand(*self.CASE):
            for thing in (
                (), (chair,), (back,), (chair, back, 0), (chair, back, back), (chair, back, None),
                (0, chair, back), (chair, back, chair, back), (chair, back) * 60,
            ):
                self.assertIs(shows_difference(*self.CASE, thing), False)

    def test_values_of_every_other_kind(self):
        for chair, back in differences_by_hand(*self.CASE):
            for thing in (
                chair, -1, 10 ** 5000, True, False, None, "", "0", f"{chair}{back}", f"({chair}, {back})",
                [], [[]], ((),), [()], (chair, None), (None, back), (None, None), (chair, str(back)),
                (str(chair), back), (str(chair), str(back)), ("", ""), (chair, (back,)), ((chair,), back),
                (chair, [back]), ([chair], back), ([], []), ((), ()), [chair, [back]], (chair, ""),
                ((chair, back), (chair, back)), (nested(chair, 9, tuple), back), (chair, nested(back, 9, list)),
                nested((chair, back), 9, tuple), nested((chair, back), 9, list), nested(None, 10, tuple),
                nested(True, 10, list), nested("", 10, tuple),
            ):
                self.assertIs(shows_difference(*self.CASE, thing), False)

    def test_nothing_shows_a_difference_where_there_is_none(self):
        for size, people in small_cases(6):
            calls = mixed_calls(size, 9, people)
            for chair in range(size):
                for back in range(people):
                    self.assertIs(shows_difference(size, people, calls, calls, (chair, back)), False)
            self.assertIs(shows_difference(size, people, calls, calls, None), False)

    def test_the_thing_stays_unchanged(self):
        thing = ([1, [2]], (0, [None]))
        shows_difference(*self.CASE, thing)
        self.assertEqual(shape(thing), shape(([1, [2]], (0, [None]))))


class LeadingTest(unittest.TestCase):
    def test_against_all_tables(self):
        seen = []
        for size, people in small_cases(6):
            for first, second in pairs_of_lists(size):
                expected = None
                for table in tables_of(size, people):
                    if table_by_hand(size, table, first) != table_by_hand(size, table, second):
                        expected = table
                        break
                self.assertEqual(shape(leading_difference(size, people, first, second)), shape(expected))
                self.assertIs(lead_alike(size, people, first, second), expected is None)
                seen.append(expected is None)
        self.assertGreater(seen.count(True), 100)
        self.assertGreater(seen.count(False), 100)

    def test_large_sizes(self):
        for size, people in ((8, 5), (9, 1), (10, 5), (10, 9)):
            for many in (1, 2, 4, 9, 120):
                first, second = mixed_calls(size, many, 3), mixed_calls(size, many, 4)
                every = [
                    table for table in tables_of(size, people)
                    if table_by_hand(size, table, first) != table_by_hand(size, table, second)]
                self.assertEqual(leading_difference(size, people, first, second), min(every) if every else None)
                self.assertIs(lead_alike(size, people, first, second), not every)

    def test_the_same_list_twice(self):
        for size, people in small_cases(8):
            calls = mixed_calls(size, 12, people)
            self.assertIs(lead_alike(size, people, calls, calls), True)
            self.assertIsNone(leading_difference(size, people, calls, tuple(calls)))

    def test_either_list_first(self):
        for size, people in small_cases(5):
            for first, second in pairs_of_lists(size):
                self.assertEqual(
                    leading_difference(size, people, first, second),
                    leading_difference(size, people, second, first))
                self.assertEqual(
                    lead_alike(size, people, first, second), lead_alike(size, people, second, first))

    def test_lists_that_move_alike_lead_alike(self):
        for size, people in small_cases(6):
            for first, second in pairs_of_lists(size):
                if move_alike(size, people, first, second):
                    self.assertIs(lead_alike(size, people, first, second), True)

    def test_lists_that_lead_alike_but_do_not_move_alike(self):
        # In both, the last call takes everybody to chair 0; one list goes once round the table more.
        self.assertIs(lead_alike(3, 1, [0], [1, 0]), True)
        self.assertIs(move_alike(3, 1, [0], [1, 0]), False)
        self.assertEqual(moving_difference(3, 1, [0], [1, 0]), (0, 0))
        for size in range(2, 11):
            self.assertIs(lead_alike(size, 1, [0], list(range(size)) + [0]), True)
            self.assertIs(move_alike(size, 1, [0], list(range(size)) + [0]), False)
            self.assertIsNone(leading_difference(size, 1, [0], list(range(size)) + [0]))

    def test_a_difference_that_is_not_at_the_first_table(self):
        self.assertEqual(leading_difference(3, 1, [], [0]), (1,))
        self.assertEqual(leading_difference(4, 2, [], [1]), (0, 2))


class ExamplesTest(unittest.TestCase):
    def test_section_6(self):
        for result, expected in (
            (move_alike(5, 2, [1, 1], [1]), True),
            (moving_difference(3, 1, [0], [1, 0]), (0, 0)),
            (shows_difference(3, 1, [0], [1, 0], (0, 0)), True),
            (lead_alike(3, 1, [0], [1, 0]), True),
            (leading_difference(3, 1, [0], [1]), (0,)),
        ):
            self.assertEqual(shape(result), shape(expected))
