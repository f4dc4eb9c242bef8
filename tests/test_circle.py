import copy
import inspect
import unittest
from unittest import mock

from nextstands import circle as circle_module
from nextstands.circle import Circle
from nextstands.errors import NoChair, NoNumber
from tests.helpers import as_lists, mixed_calls, mixed_operations, movers_by_hand, seats_by_hand, shape
from tests.helpers import small_tables, table_by_hand, tables_of, walked_by_hand, within

FAR = (-10 ** 5000, -10 ** 40, -100, -2, -1, 10 ** 40, 10 ** 5000)
# Each method with the names of its arguments.
METHODS = {
    "call": ["chair"], "call_all": ["calls"], "undo": [], "table": [], "seats": [], "steps": [], "begun": [],
    "chairs": [], "calls": [], "operation_count": [], "log": [], "as_of": ["many"], "clone": [],
}
QUERIES = ("table", "seats", "steps", "begun", "chairs", "calls", "operation_count")


def answers(circle):
    """What all queries but the log answer, with the exact kinds."""
    told = [shape(getattr(circle, name)()) for name in QUERIES]
    return told + [shape(len(circle)), shape(repr(circle))]


class Account:
    """A second account of a circle: the operations that remain, and the log."""

    def __init__(self, size, table):
        self.size = size
        self.table = tuple(table)
        self.kept = []
        self.log = []

    def calls(self):
        return [chair for operation in self.kept for chair in operation]

    def answers(self):
        size, table, calls = self.size, self.table, self.calls()
        told = [
            table_by_hand(size, table, calls), seats_by_hand(size, table, calls), walked_by_hand(size, table, calls),
            table, size, calls, len(self.kept), len(table),
            f"Circle(chairs={size}, people={len(table)}, calls={len(calls)})",
        ]
        return [shape(answer) for answer in told]

    def movers(self, chairs):
        many = len(self.calls())
        return movers_by_hand(self.size, self.table, self.calls() + list(chairs))[many:]

    def renewed(self):
        """A new circle to which the remaining operations are applied."""
        circle = Circle(self.size, self.table)
        for number, chairs in enumerate(self.kept):
            if len(chairs) == 1 and number % 2 == 0:
                circle.call(chairs[0])
            else:
                circle.call_all(chairs)
        return circle


class CircleCase(unittest.TestCase):
    def assert_agree(self, circle, account):
        self.assertEqual(answers(circle), account.answers())
        self.assertEqual(shape(circle.log()), shape(account.log))

    def assert_no_chair(self, chair, function, *arguments):
        with self.assertRaises(NoChair) as held:
            function(*arguments)
        self.assertIs(held.exception.chair, chair)

    def assert_no_number(self, circle, number):
        with self.assertRaises(NoNumber) as held:
            circle.as_of(number)
        self.assertIs(held.exception.number, number)

    def do(self, circle, account, operation):
        """Do one operation on the circle, note it in the account, and compare what is returned."""
        word, *rest = operation
        if word == "undo":
            expected = len(account.kept) > 0
            self.assertIs(circle.undo(), expected)
            account.kept = account.kept[:-1]
            account.log.append("undo" if expected else "undo!")
            return
        chairs = rest[0] if word == "call_all" else rest
        wrong = [chair for chair in chairs if not 0 <= chair < account.size]
        if wrong:
            self.assert_no_chair(wrong[0], getattr(circle, word), rest[0])
            account.log.append(word + "!")
            return
        movers = account.movers(chairs)
        expected = movers if word == "call_all" else movers[0]
        self.assertEqual(shape(getattr(circle, word)(rest[0])), shape(expected))
        account.kept = account.kept + [list(chairs)]
        account.log.append(word)


class NewCircleTest(CircleCase):
    def test_every_table(self):
        for size, table in small_tables(10):
            circle = Circle(size, table)
            self.assert_agree(circle, Account(size, table))

    def test_by_name_and_with_a_list(self):
        seats = [0, 3]
        circle = Circle(table=seats, size=5)
        self.assertEqual(shape(circle.begun()), shape((0, 3)))
        self.assertEqual(shape(circle.table()), shape((0, 3)))
        self.assertEqual(circle, Circle(5, (0, 3)))
        circle.call_all([1, 4])
        self.assertEqual(seats, [0, 3])
        seats[1] = 4
        self.assertEqual(circle.begun(), (0, 3))
        self.assertEqual(circle.table(), (1, 4))


class OperationsTest(CircleCase):
    def test_call_at_every_table(self):
        for size, table in small_tables(6):
            for chair in range(size):
                circle, account = Circle(size, table), Account(size, table)
                self.do(circle, account, ("call", chair))
                self.assert_agree(circle, account)

    def test_call_that_moves_nobody_is_an_operation(self):
        circle = Circle(5, (0, 3))
        self.assertIsNone(circle.call(3))
        self.assertEqual(circle.operation_count(), 1)
        self.assertEqual(circle.calls(), [3])
        self.assertEqual(circle.log(), ["call"])
        self.assertIs(circle.undo(), True)
        self.assertIs(circle.undo(), False)

    def test_call_all_at_every_table(self):
        for size, table in small_tables(6):
            for many in (0, 1, 2, 7):
                circle, account = Circle(size, table), Account(size, table)
                self.do(circle, account, ("call_all", mixed_calls(size, many, many)))
                self.do(circle, account, ("call_all", mixed_calls(size, many + 2, 9)))
                self.assert_agree(circle, account)

    def test_call_all_with_no_calls(self):
        for calls in ([], ()):
            circle = Circle(5, (0, 3))
            self.assertEqual(shape(circle.call_all(calls)), shape([]))
            self.assertEqual(circle.operation_count(), 1)
            self.assertEqual(circle.calls(), [])
            self.assertEqual(circle.log(), ["call_all"])
            self.assertEqual(circle, Circle(5, (0, 3)))
            self.assertIs(circle.undo(), True)
            self.assertEqual(circle.operation_count(), 0)
            self.assertIs(circle.undo(), False)

    def test_120_calls_at_once(self):
        for size, people in ((2, 1), (7, 3), (10, 5), (10, 9)):
            table = tables_of(size, people)[1]
            circle, account = Circle(size, table), Account(size, table)
            self.do(circle, account, ("call_all", mixed_calls(size, 120, people)))
            self.assert_agree(circle, account)

    def test_people_keep_their_numbers(self):
        circle = Circle(5, (0, 3))
        # Person 0 passes below chair 0 and is the last one of the table from then on.
        self.assertEqual(circle.call(4), 0)
        self.assertEqual(circle.table(), (3, 4))
        self.assertEqual(circle.seats(), [4, 3])
        self.assertEqual(circle.call(1), 1)
        self.assertEqual(circle.call_all([3, 0, 3]), [0, 1, None])
        self.assertEqual(circle.seats(), [3, 0])
        self.assertEqual(circle.table(), (0, 3))
        self.assertEqual(circle.steps(), [2, 3])

    def test_arguments_by_name(self):
        circle = Circle(5, (0, 3))
        self.assertEqual(circle.call(chair=1), 1)
        self.assertEqual(circle.call_all(calls=(4, 3)), [0, 0])
        self.assertEqual(circle.as_of(many=1).calls(), [1])

    def test_the_calls_are_not_kept(self):
        circle = Circle(5, (0, 3))
        calls = [1, 4]
        circle.call_all(calls)
        calls.append(3)
        calls[0] = 2
        self.assertEqual(circle.calls(), [1, 4])
        self.assertEqual(circle.table(), (1, 4))

    def test_at_least_60_operations(self):
        for size, people in ((2, 1), (5, 2), (10, 4)):
            table = tables_of(size, people)[0]
            circle, account = Circle(size, table), Account(size, table)
            for number in range(75):
                if number % 3 == 0:
                    self.do(circle, account, ("call", mixed_calls(size, 1, number)[0]))
                else:
                    self.do(circle, account, ("call_all", mixed_calls(size, number % 4, number)))
                self.assert_agree(circle, account)
            self.assertEqual(circle.operation_count(), 75)
            for many in range(76):
                self.assertEqual(circle.as_of(many).operation_count(), many)
            for _ in range(75):
                self.do(circle, account, ("undo",))
                self.assert_agree(circle, account)
            self.do(circle, account, ("undo",))
            self.assert_agree(circle, account)

    def test_60_operations_of_120_calls(self):
        circle, account = Circle(10, (0, 2, 5)), Account(10, (0, 2, 5))
        for number in range(60):
            self.do(circle, account, ("call_all", mixed_calls(10, 120, number)))
        self.assert_agree(circle, account)
        # What a circle returns may be passed in again.
        self.do(circle, account, ("call_all", circle.calls()))
        self.assert_agree(circle, account)


class NoChairTest(CircleCase):
    def test_call(self):
        for size, table in small_tables(5):
            for chair in FAR + (size, size + 1, -size, 2 * size):
                circle, account = Circle(size, table), Account(size, table)
                self.do(circle, account, ("call", table[0]))
                before = answers(circle)
                self.assert_no_chair(chair, circle.call, chair)
                self.assertEqual(answers(circle), before)
                self.assertEqual(circle.log(), ["call", "call!"])

    def test_call_all(self):
        for size, table in small_tables(5):
            free = [chair for chair in range(size) if chair not in table]
            for chair in FAR + (size, size + 1, -size):
                for calls in (
                    [chair], [free[0], chair], [chair, free[0]], [free[0], chair, chair + 1, -5],
                    list(range(size)) + [chair] + list(range(size)), [free[0]] * 119 + [chair],
                ):
                    for turned in (list, tuple):
                        circle = Circle(size, table)
                        circle.call(free[-1])
                        before = answers(circle)
                        self.assert_no_chair(chair, circle.call_all, turned(calls))
                        self.assertEqual(answers(circle), before)
                        self.assertEqual(circle.log(), ["call", "call_all!"])

    def test_the_first_one_is_told(self):
        circle = Circle(5, (0, 3))
        first, second = 10 ** 30, -10 ** 30
        self.assert_no_chair(first, circle.call_all, [4, first, second])
        self.assert_no_chair(second, circle.call_all, [second, 4, first])
        self.assert_no_chair(first, circle.call_all, [first, 4, first + 1])
        self.assertEqual(circle.table(), (0, 3))
        self.assertIs(circle.undo(), False)
        self.assertEqual(circle.log(), ["call_all!", "call_all!", "call_all!", "undo!"])

    def test_the_calls_stay_unchanged(self):
        calls = [1, 4, 5, -1]
        self.assert_no_chair(calls[2], Circle(5, (0, 3)).call_all, calls)
        self.assertEqual(calls, [1, 4, 5, -1])


class UndoTest(CircleCase):
    def test_down_to_the_beginning_and_once_more(self):
        for size, table in small_tables(5):
            circle, account = Circle(size, table), Account(size, table)
            states = [answers(circle)]
            for number in range(6):
                circle.call_all(mixed_calls(size, number, number))
                states.append(answers(circle))
                circle.call(mixed_calls(size, 1, number)[0])
                states.append(answers(circle))
            for state in states[-2::-1]:
                self.assertIs(circle.undo(), True)
                self.assertEqual(answers(circle), state)
            for _ in range(3):
                self.assertIs(circle.undo(), False)
                self.assertEqual(answers(circle), account.answers())
            self.assertEqual(circle.log(), ["call_all", "call"] * 6 + ["undo"] * 12 + ["undo!"] * 3)

    def test_an_operation_after_undo(self):
        circle = Circle(5, (0, 3))
        circle.call(1)
        circle.call_all([4, 3])
        circle.undo()
        self.assertEqual(circle.call(2), 0)
        self.assertEqual(circle.calls(), [1, 2])
        self.assertIs(circle.undo(), True)
        self.assertIs(circle.undo(), True)
        self.assertIs(circle.undo(), False)
        self.assertEqual(circle, Circle(5, (0, 3)))

    def test_nothing_to_revert_in_a_new_circle(self):
        circle = Circle(2, (1,))
        self.assertIs(circle.undo(), False)
        self.assertEqual(circle.log(), ["undo!"])
        self.assert_no_chair(2, circle.call, 2)
        self.assertIs(circle.undo(), False)
        self.assertEqual(circle.log(), ["undo!", "call!", "undo!"])


class LogTest(CircleCase):
    def test_every_entry(self):
        circle = Circle(5, (0, 3))
        self.assertEqual(shape(circle.log()), shape([]))
        circle.undo()
        circle.call(1)
        self.assert_no_chair(5, circle.call, 5)
        circle.call_all([])
        self.assert_no_chair(-1, circle.call_all, [1, -1])
        circle.call(1)
        circle.undo()
        expected = ["undo!", "call", "call!", "call_all", "call_all!", "call", "undo"]
        self.assertEqual(shape(circle.log()), shape(expected))

    def test_queries_leave_no_entry(self):
        circle = Circle(5, (0, 3))
        circle.call(1)
        for name in QUERIES + ("log", "clone"):
            getattr(circle, name)()
        circle.as_of(0)
        self.assert_no_number(circle, 2)
        self.assertEqual((len(circle), circle == circle), (2, True))
        repr(circle)
        self.assertEqual(circle.log(), ["call"])


class AsOfTest(CircleCase):
    def filled(self, size, table):
        circle, account = Circle(size, table), Account(size, table)
        for operation in mixed_operations(size, 25, size):
            self.do(circle, account, operation)
        return circle, account

    def test_every_number(self):
        for size, table in small_tables(5):
            circle, account = self.filled(size, table)
            before = answers(circle), circle.log()
            for many in range(len(account.kept) + 1):
                past = Account(size, table)
                past.kept = account.kept[:many]
                self.assert_agree(circle.as_of(many), past)
                self.assertEqual(circle.as_of(many), past.renewed())
            self.assertEqual((answers(circle), circle.log()), before)

    def test_no_number(self):
        for size, table in small_tables(4):
            circle, account = self.filled(size, table)
            before = answers(circle), circle.log()
            many = len(account.kept)
            for number in FAR + (many + 1, many + 2, many + 100, -many, -many - 1):
                if not 0 <= number <= many:
                    self.assert_no_number(circle, number)
            self.assertEqual((answers(circle), circle.log()), before)

    def test_no_number_in_a_new_circle(self):
        circle = Circle(5, (0, 3))
        for number in FAR + (1, 2):
            self.assert_no_number(circle, number)
        self.assertEqual(circle.as_of(0), circle)

    def test_not_beyond_what_remains(self):
        circle = Circle(5, (0, 3))
        circle.call(1)
        circle.call(4)
        circle.undo()
        self.assertEqual(circle.as_of(1).calls(), [1])
        self.assert_no_number(circle, 2)

    def test_operations_can_be_reverted_there(self):
        circle, account = self.filled(6, (0, 2, 5))
        many = len(account.kept)
        self.assertGreater(many, 3)
        past, told = circle.as_of(many - 1), Account(6, (0, 2, 5))
        told.kept = account.kept[:-1]
        for _ in range(many - 1):
            self.do(past, told, ("undo",))
            self.assert_agree(past, told)
        self.do(past, told, ("undo",))
        self.assert_agree(past, told)
        self.assertEqual(answers(circle), account.answers())

    def test_clone(self):
        for size, table in small_tables(5):
            circle, account = self.filled(size, table)
            twin = circle.clone()
            self.assertIsNot(twin, circle)
            self.assertEqual(answers(twin), answers(circle))
            self.assertEqual(shape(twin.log()), shape([]))
            self.assertEqual(circle.log(), account.log)
            self.assertTrue(twin == circle)

    def test_circles_do_not_affect_each_other(self):
        circle, account = self.filled(5, (0, 3))
        others = [circle.clone(), circle.as_of(2), Circle(5, (0, 3)), circle.clone().clone()]
        accounts = []
        for other, kept in zip(others, (account.kept, account.kept[:2], [], account.kept)):
            told = Account(5, (0, 3))
            told.kept = list(kept)
            accounts.append(told)
        pairs = list(zip(others + [circle], accounts + [account]))
        for at, (one, told) in enumerate(pairs):
            for operation in mixed_operations(5, 12, at):
                self.do(one, told, operation)
                for other, note in pairs:
                    self.assert_agree(other, note)

    def test_reverting_in_the_first_leaves_the_clone(self):
        circle = Circle(5, (0, 3))
        circle.call(1)
        circle.call_all([4, 3])
        twin = circle.clone()
        circle.undo()
        circle.undo()
        self.assertEqual(twin.calls(), [1, 4, 3])
        self.assertEqual(twin.operation_count(), 2)
        twin.call(0)
        self.assertEqual(circle.calls(), [])
        self.assertEqual(circle.log(), ["call", "call_all", "undo", "undo"])
        self.assertEqual(twin.log(), ["call"])


class AnyOperationsTest(CircleCase):
    def test_beside_a_new_circle_with_the_remaining_operations(self):
        for size, table in small_tables(5):
            self.walk(size, table, mixed_operations(size, 40, sum(table)))

    def test_large_sizes(self):
        for size, people in ((8, 1), (9, 5), (10, 5), (10, 9)):
            for table in tables_of(size, people)[::50]:
                self.walk(size, table, mixed_operations(size, 70, people))

    def walk(self, size, table, operations):
        circle, account = Circle(size, table), Account(size, table)
        for number, operation in enumerate(operations):
            self.do(circle, account, operation)
            self.assert_agree(circle, account)
            fresh = account.renewed()
            self.assertEqual(answers(circle), answers(fresh))
            self.assertTrue(circle == fresh)
            self.assertFalse(circle != fresh)
            if number % 9 == 0:
                # The new circle also goes on as the old one does.
                calls = mixed_calls(size, 5, number)
                self.assertEqual(circle.clone().call_all(calls), fresh.call_all(calls))
                self.assertEqual(circle.as_of(len(account.kept) // 2), fresh.as_of(len(account.kept) // 2))

    def test_the_operations_hold_every_kind(self):
        words = []
        for seed in range(3):
            circle, account = Circle(5, (0, 3)), Account(5, (0, 3))
            for operation in mixed_operations(5, 60, seed):
                self.do(circle, account, operation)
            words += account.log
        for word in ("call", "call!", "call_all", "call_all!", "undo"):
            self.assertGreater(words.count(word), 3)


class ReturnedListsTest(CircleCase):
    def test_changing_them_has_no_effect(self):
        circle, account = Circle(5, (0, 3)), Account(5, (0, 3))
        for operation in (("call", 1), ("call_all", [4, 3]), ("call_all", []), ("undo",), ("call", 9)):
            self.do(circle, account, operation)
        for name in ("seats", "steps", "calls", "log"):
            told = getattr(circle, name)()
            self.assertIsInstance(told, list)
            self.assertIsNot(told, getattr(circle, name)())
            told.append(99)
            told[0] = -1
            self.assert_agree(circle, account)
            told.clear()
            self.assert_agree(circle, account)
        movers = circle.call_all([2, 0])
        account.kept.append([2, 0])
        account.log.append("call_all")
        movers.append(7)
        self.assert_agree(circle, account)

    def test_changing_them_in_a_new_circle(self):
        circle, account = Circle(3, (1,)), Account(3, (1,))
        for name in ("seats", "steps", "calls", "log"):
            getattr(circle, name)().append(2)
        circle.call_all([]).append(1)
        account.kept.append([])
        account.log.append("call_all")
        self.assert_agree(circle, account)
        self.assertEqual(circle.begun(), (1,))


class EqualityTest(CircleCase):
    def made(self, size, table, *operations):
        circle = Circle(size, table)
        for calls in operations:
            circle.call_all(calls)
        return circle

    def assert_equal(self, one, other):
        self.assertIs(one == other, True)
        self.assertIs(other == one, True)
        self.assertIs(one != other, False)

    def assert_different(self, one, other):
        self.assertIs(one == other, False)
        self.assertIs(other == one, False)
        self.assertIs(one != other, True)

    def test_recorded_otherwise(self):
        one = self.made(5, (0, 3), [1, 4, 3])
        other = Circle(5, [0, 3])
        for chair in (1, 4, 3):
            other.call(chair)
        detour = self.made(5, (0, 3), [], [1], [2, 2])
        detour.undo()
        detour.call_all((4, 3))
        detour.call_all([])
        self.assert_no_chair(7, detour.call, 7)
        for left in (one, other, detour, one.clone(), detour.as_of(3)):
            for right in (one, other, detour, one.clone(), detour.as_of(3)):
                self.assert_equal(left, right)

    def test_other_sizes_beginnings_and_calls(self):
        one = self.made(5, (0, 3), [1, 4, 3])
        for other in (
            self.made(6, (0, 3), [1, 4, 3]), self.made(5, (0, 2), [1, 4, 3]), self.made(5, (0,), [1, 4, 3]),
            self.made(5, (0, 3, 4), [1, 4, 3]), self.made(5, (0, 3)), self.made(5, (0, 3), [1, 4]),
            self.made(5, (0, 3), [1, 4, 3, 3]), self.made(5, (0, 3), [1, 4], [3, 3]),
            self.made(5, (0, 3), [3, 4, 1]), self.made(5, (0, 3), [1, 4, 2]),
        ):
            self.assert_different(one, other)

    def test_the_same_table_by_other_calls(self):
        # A call that moves nobody is a call, too.
        one, other = self.made(5, (0, 3), [1]), self.made(5, (0, 3), [3, 1])
        self.assertEqual((one.table(), one.steps()), (other.table(), other.steps()))
        self.assert_different(one, other)

    def test_the_same_table_with_another_beginning(self):
        self.assert_different(self.made(5, (0, 1)), self.made(5, (0, 3), [1]))

    def test_the_size_alone(self):
        self.assert_different(self.made(5, (0, 3)), self.made(6, (0, 3)))

    def test_other_things(self):
        circle = Circle(5, (0, 3))
        circle.call(1)
        for thing in (
            None, True, False, 0, 5, "", repr(circle), (0, 3), (0, 1), [1], [], [5, (0, 3), [1]],
            (5, (0, 3), [1]), {}, b"", object(), Circle, Account(5, (0, 3)), 2, [circle], (circle,),
        ):
            self.assert_different(circle, thing)
        self.assertIs(circle == mock.ANY, False)

    def test_in_lists(self):
        one, other = self.made(5, (0, 3), [1]), self.made(5, (0, 3), [4])
        self.assertIn(one.clone(), [other, one])
        self.assertNotIn(one, [other, None, (0, 3)])


class LengthAndReprTest(CircleCase):
    def test_every_table(self):
        for size, table in small_tables(8):
            circle = Circle(size, table)
            self.assertEqual(len(circle), len(table))
            self.assertEqual(repr(circle), f"Circle(chairs={size}, people={len(table)}, calls=0)")
            circle.call_all(mixed_calls(size, 5, 1))
            circle.call(0)
            self.assertEqual(len(circle), len(table))
            self.assertEqual(repr(circle), f"Circle(chairs={size}, people={len(table)}, calls=6)")
            self.assertEqual(str(circle), repr(circle))

    def test_calls_are_counted_not_operations(self):
        circle = Circle(10, tuple(range(9)))
        circle.call_all(mixed_calls(10, 120, 1))
        circle.call_all([])
        self.assertEqual(repr(circle), "Circle(chairs=10, people=9, calls=120)")
        circle.undo()
        circle.undo()
        self.assertEqual(repr(circle), "Circle(chairs=10, people=9, calls=0)")


class InterfaceTest(unittest.TestCase):
    def test_methods_stand_in_the_class_itself(self):
        for name in METHODS:
            method = vars(Circle)[name]
            self.assertTrue(inspect.isfunction(method))
            self.assertEqual(list(inspect.signature(method).parameters)[1:], METHODS[name])
        for name in ("__len__", "__eq__", "__repr__", "__init__"):
            self.assertTrue(inspect.isfunction(vars(Circle)[name]))

    def test_there_on_each_object(self):
        circle = Circle(5, (0, 3))
        circle.call(1)
        for one in (circle, circle.clone(), circle.as_of(0)):
            self.assertIs(type(one), Circle)
            for name in METHODS:
                self.assertTrue(callable(getattr(one, name)))

    def test_defined_in_its_file(self):
        self.assertEqual(Circle.__module__, circle_module.__name__)
        self.assertEqual(list(inspect.signature(Circle).parameters), ["size", "table"])

    def test_lists_for_tuples_and_tuples_for_lists(self):
        one, other = Circle(5, as_lists((0, 3))), Circle(5, (0, 3))
        self.assertEqual(shape(one.call_all((1, 4))), shape(other.call_all([1, 4])))
        self.assertEqual(answers(one), answers(other))
        self.assertEqual(shape(one.calls()), shape([1, 4]))

    def test_the_same_query_answers_the_same_every_time(self):
        circle = Circle(7, (1, 2, 6))
        circle.call_all(mixed_calls(7, 30, 2))
        first = copy.deepcopy(answers(circle))
        for _ in range(3):
            self.assertEqual(answers(circle), first)

    def test_somewhat_beyond_the_bounds(self):
        circle = Circle(14, tuple(range(0, 14, 3)))
        calls = mixed_calls(14, 300, 1)
        movers = within(1000000, circle.call_all, calls)
        self.assertEqual(movers, movers_by_hand(14, range(0, 14, 3), calls))
        self.assertEqual(circle.steps(), walked_by_hand(14, range(0, 14, 3), calls))


class ExamplesTest(CircleCase):
    def session(self):
        circle = Circle(5, (0, 3))
        first = circle.call(1)
        more = circle.call_all([4, 3])
        return circle, first, more

    def test_section_10(self):
        for example, expected in (
            (lambda circle: circle.call(3), None),
            (lambda circle: circle.undo(), True),
            (lambda circle: circle.table(), (1, 3)),
            (lambda circle: circle.seats(), [3, 1]),
            (lambda circle: circle.steps(), [2, 2]),
            (lambda circle: circle.begun(), (0, 3)),
            (lambda circle: circle.chairs(), 5),
            (lambda circle: circle.calls(), [1, 4, 3]),
            (lambda circle: circle.operation_count(), 2),
            (lambda circle: circle.log(), ["call", "call_all"]),
            (lambda circle: circle.as_of(1).table(), (0, 1)),
            (lambda circle: circle.clone() == circle, True),
            (lambda circle: len(circle), 2),
            (lambda circle: repr(circle), "Circle(chairs=5, people=2, calls=3)"),
        ):
            circle, first, more = self.session()
            self.assertEqual(shape([first, more]), shape([1, [0, 0]]))
            self.assertEqual(shape(example(circle)), shape(expected))

    def test_errors_of_section_10(self):
        self.assert_no_chair(5, self.session()[0].call, 5)
        self.assert_no_chair(-1, self.session()[0].call_all, [1, -1])
        self.assert_no_number(self.session()[0], 3)
