import inspect
import itertools
import unittest

from nextstands import commands
from nextstands.commands import run
from nextstands.errors import BadScript
from tests.helpers import Search, course_by_hand, line_by_hand, mixed_calls, movers_by_hand, moves_by_hand
from tests.helpers import seats_by_hand, shape, small_tables, table_by_hand, tables_of, walked_by_hand, within

# One line of each form, and the words by what they take behind them.
GOOD = (
    "call 1", "all 4 3 3", "undo", "show", "seats", "steps", "repeat 7", "course", "fewest", "alike 1 4", "all 0",
    "alike 4", "call 0", "repeat 0", "repeat 999999999999",
)
BARE = ("undo", "show", "seats", "steps", "course", "fewest")
WITH_CHAIRS = ("all", "alike")


def spaced(numbers):
    return " ".join(map(str, numbers))


def movers_told(movers):
    return " ".join("-" if person is None else str(person) for person in movers)


def alike_by_hand(size, people, first, second):
    ones, others = moves_by_hand(size, people, first), moves_by_hand(size, people, second)
    for chair in range(size):
        for back in range(people):
            if ones[chair][back] != others[chair][back]:
                return f"{chair} {back}"
    return "yes"


class CommandsCase(unittest.TestCase):
    def assert_runs(self, script, expected):
        self.assertEqual(shape(run(script)), shape(expected))

    def assert_bad(self, script, index):
        with self.subTest(script=script[:60]):
            with self.assertRaises(BadScript) as held:
                run(script)
            self.assertEqual(shape(held.exception.line), shape(index))

    def assert_bad_line(self, *lines):
        """That no script holds such a line, wherever it stands."""
        for line in lines:
            self.assert_bad("5: 0 3\n" + line, 1)
            self.assert_bad("5: 0 3\ncall 1\nundo\n" + line + "\nshow", 3)
            self.assert_bad("5: 0 3\n" + "show\n" * 20 + line + "\nsit\n" + line, 21)


class CallTest(CommandsCase):
    def test_every_table_and_chair(self):
        for size, table in small_tables(6):
            for chair in range(size):
                self.assert_runs(
                    line_by_hand(size, table) + f"\ncall {chair}\nshow\nseats\nsteps", [
                        movers_told(movers_by_hand(size, table, [chair])),
                        line_by_hand(size, table_by_hand(size, table, [chair])),
                        spaced(seats_by_hand(size, table, [chair])),
                        spaced(walked_by_hand(size, table, [chair])),
                    ])

    def test_nobody_moves(self):
        self.assert_runs("5: 0 3\ncall 3\ncall 0\ncall 4", ["-", "-", "0"])

    def test_chairs_of_size_10(self):
        self.assert_runs("10: 0 9\ncall 9\ncall 8\nshow", ["-", "1", "10: 0 8"])


class AllTest(CommandsCase):
    def test_one_or_more_chairs(self):
        for size, table in small_tables(6):
            for many in (1, 2, 3, 11):
                calls = mixed_calls(size, many, many)
                self.assert_runs(
                    line_by_hand(size, table) + f"\nall {spaced(calls)}\nshow\nsteps", [
                        movers_told(movers_by_hand(size, table, calls)),
                        line_by_hand(size, table_by_hand(size, table, calls)),
                        spaced(walked_by_hand(size, table, calls)),
                    ])

    def test_120_chairs(self):
        for size, people in ((2, 1), (10, 4), (10, 9)):
            table = tables_of(size, people)[0]
            calls = mixed_calls(size, 120, people)
            line = "all " + spaced(calls)
            self.assertLessEqual(len(line), 300)
            self.assert_runs(
                line_by_hand(size, table) + "\n" + line + "\nseats\nsteps", [
                    movers_told(movers_by_hand(size, table, calls)),
                    spaced(seats_by_hand(size, table, calls)), spaced(walked_by_hand(size, table, calls))])

    def test_one_operation(self):
        self.assert_runs("5: 0 3\nall 1 4 3\nundo\nundo\nshow", ["1 0 0", "yes", "no", "5: 0 3"])

    def test_people_keep_their_numbers(self):
        self.assert_runs(
            "5: 0 3\ncall 4\nseats\nshow\ncall 1\nseats\nall 3 0 3\nseats\nsteps",
            ["0", "4 3", "5: 3 4", "1", "4 1", "0 1 -", "3 0", "2 3"])


class UndoTest(CommandsCase):
    def test_down_to_the_beginning_and_once_more(self):
        self.assert_runs(
            "5: 0 3\nundo\ncall 1\nall 4 3\nshow\nundo\nshow\nundo\nshow\nundo\nundo\ncall 1",
            ["no", "1", "0 0", "5: 1 3", "yes", "5: 0 1", "yes", "5: 0 3", "no", "no", "1"])

    def test_commands_behind_undo(self):
        calls = [1, 4, 3]
        self.assert_runs(
            "5: 0 3\nall 1 4 3\ncall 2\nundo\nshow\nseats\nsteps\nrepeat 3\ncourse\nfewest\nalike 1 4 3\nalike 2", [
                movers_told(movers_by_hand(5, (0, 3), calls)),
                movers_told(movers_by_hand(5, (0, 3), calls + [2])[3:]), "yes",
                line_by_hand(5, table_by_hand(5, (0, 3), calls)), spaced(seats_by_hand(5, (0, 3), calls)),
                spaced(walked_by_hand(5, (0, 3), calls)), line_by_hand(5, table_by_hand(5, (0, 3), calls * 3)),
                spaced(course_by_hand(5, (0, 3), calls)), "2", "yes", alike_by_hand(5, 2, [2], calls)])

    def test_all_undone(self):
        self.assert_runs(
            "5: 0 3\nall 1 4 3\ncall 2\nundo\nundo\nshow\nseats\nsteps\nrepeat 9\ncourse\nfewest\nalike 2 3",
            ["1 0 0", "0", "yes", "yes", "5: 0 3", "0 3", "0 0", "5: 0 3", "0 1", "0",
             alike_by_hand(5, 2, [2, 3], [])])


class RepeatTest(CommandsCase):
    def test_small_numbers(self):
        for size, table in small_tables(5):
            calls = mixed_calls(size, 3, len(table))
            script = line_by_hand(size, table) + f"\nall {spaced(calls)}"
            expected = [movers_told(movers_by_hand(size, table, calls))]
            for many in range(12):
                script += f"\nrepeat {many}"
                expected.append(line_by_hand(size, table_by_hand(size, table, calls * many)))
            self.assert_runs(script, expected)

    def test_up_to_twelve_digits(self):
        for size, people in ((3, 1), (5, 2), (7, 4), (10, 5)):
            table = tables_of(size, people)[-1]
            calls = mixed_calls(size, 6, people)
            lead, period = course_by_hand(size, table, calls)
            for many in (100000000000, 999999999999, 123456789012, 10 ** 9 + 1, 99999999999):
                after = table_by_hand(size, table, calls * (lead + (many - lead) % period))
                script = line_by_hand(size, table) + f"\nall {spaced(calls)}\nrepeat {many}"
                told = within(1000000, run, script)
                self.assertEqual(told[1], line_by_hand(size, after))

    def test_nothing_is_recorded(self):
        self.assert_runs("5: 0 3\ncall 1\nrepeat 50\nshow\nundo\nundo", ["1", "5: 0 1", "5: 0 1", "yes", "no"])

    def test_no_calls_so_far(self):
        for size, table in small_tables(6):
            line = line_by_hand(size, table)
            self.assert_runs(line + "\nrepeat 0\nrepeat 1\nrepeat 999999999999", [line] * 3)

    def test_from_the_beginning(self):
        # Not from the table that the calls have led to.
        table = (0, 2, 5)
        for calls in ([1], [1, 4], [3, 4, 3]):
            expected = line_by_hand(6, table_by_hand(6, table, calls * 2))
            self.assertEqual(run(f"6: 0 2 5\nall {spaced(calls)}\nrepeat 2")[1], expected)
            self.assertEqual(run(f"6: 0 2 5\nall {spaced(calls)}\nrepeat 0")[1], "6: 0 2 5")


class CourseTest(CommandsCase):
    def test_against_repetitions_one_by_one(self):
        seen = []
        for size, table in small_tables(6):
            for many in (1, 3, 5):
                calls = mixed_calls(size, many, many + size)
                expected = spaced(course_by_hand(size, table, calls))
                self.assertEqual(run(line_by_hand(size, table) + f"\nall {spaced(calls)}\ncourse")[1], expected)
                seen.append(expected)
        self.assertGreater(len(set(seen)), 5)

    def test_no_calls_so_far(self):
        for size, table in small_tables(6):
            self.assert_runs(line_by_hand(size, table) + "\ncourse", ["0 1"])

    def test_of_the_table_at_the_beginning(self):
        self.assert_runs("5: 0 3\nall 1 4 3 3\ncourse", ["1 0 0 -", "1 2"])


class FewestTest(CommandsCase):
    def test_against_a_search(self):
        for size, people in ((3, 1), (4, 2), (5, 3), (6, 3)):
            search = Search(size, people)
            for first in search.tables:
                found = search.lists_from(first)
                for seed in range(4):
                    calls = mixed_calls(size, 6, seed)
                    second = table_by_hand(size, first, calls)
                    script = line_by_hand(size, first) + f"\nfewest\nall {spaced(calls)}\nfewest"
                    told = run(script)
                    self.assertEqual([told[0], told[2]], ["0", str(len(found[second][0]))])

    def test_fewer_than_the_calls(self):
        self.assert_runs("3: 0\nall 2 1 0\nfewest\ncall 1\nfewest", ["0 0 0", "0", "0", "1"])


class AlikeTest(CommandsCase):
    def test_against_the_packs(self):
        seen = []
        for size, table in small_tables(5):
            for many in (0, 1, 2, 4):
                calls = mixed_calls(size, many, 5)
                for other in (calls, calls[:-1], calls + calls[-1:], [0], list(range(size)), mixed_calls(size, 3, 8)):
                    if not other:
                        continue
                    script = line_by_hand(size, table) + (f"\nall {spaced(calls)}" if calls else "\nundo")
                    told = run(script + f"\nalike {spaced(other)}")[1]
                    self.assertEqual(shape(told), shape(alike_by_hand(size, len(table), other, calls)))
                    seen.append(told)
        self.assertGreater(seen.count("yes"), 50)
        self.assertGreater(len(set(seen)), 5)

    def test_no_calls_so_far(self):
        self.assert_runs("3: 0\nalike 0", ["1 0"])
        self.assert_runs("3: 0\nalike 1 2", [alike_by_hand(3, 1, [1, 2], [])])

    def test_for_as_many_people_as_sit_there(self):
        # With one person the order of two calls shows at other chairs than with two.
        for table in ((0,), (0, 2), (0, 1, 2), (0, 1, 2, 4)):
            for other in ([3, 1], [1], [1, 3, 1]):
                told = run(line_by_hand(5, table) + f"\nall 1 3\nalike {spaced(other)}")[1]
                self.assertEqual(told, alike_by_hand(5, len(table), other, [1, 3]))

    def test_nothing_is_recorded(self):
        self.assert_runs("5: 0 3\nalike 1 1\nshow\nundo", [alike_by_hand(5, 2, [1, 1], []), "5: 0 3", "no"])

    def test_120_chairs(self):
        calls = mixed_calls(10, 120, 3)
        line = spaced(calls)
        movers = movers_told(movers_by_hand(10, (0, 4, 5), calls))
        self.assert_runs(f"10: 0 4 5\nall {line}\nalike {line}", [movers, "yes"])


class ScriptTest(CommandsCase):
    def test_one_line(self):
        for size, table in small_tables(10):
            self.assert_runs(line_by_hand(size, table), [])

    def test_60_lines(self):
        calls = mixed_calls(10, 59, 2)
        script = "\n".join(["10: 0 1 5 9"] + [f"call {chair}" for chair in calls])
        expected = ["-" if person is None else str(person) for person in movers_by_hand(10, (0, 1, 5, 9), calls)]
        self.assert_runs(script, expected)

    def test_somewhat_beyond_the_bounds(self):
        calls = mixed_calls(10, 150, 2)
        script = "\n".join(["10: 0 1 5 9"] + [f"call {chair}" for chair in calls] + ["undo"] * 151 + ["show"])
        told = run(script)
        self.assertEqual(told[150:], ["yes"] * 150 + ["no", "10: 0 1 5 9"])
        line = spaced(mixed_calls(10, 200, 1))
        self.assertEqual(run(f"10: 3\nall {line}\nalike {line}")[1], "yes")

    def test_the_same_script_twice_and_by_name(self):
        script = "5: 0 3\n" + "\n".join(GOOD)
        first = run(script)
        self.assertEqual(len(first), len(GOOD))
        second = run(script=script)
        self.assertEqual(shape(first), shape(second))
        self.assertIsNot(first, second)
        first.append("more")
        self.assertEqual(run(script), second)
        self.assertEqual(list(inspect.signature(run).parameters), ["script"])
        self.assertEqual(run.__module__, commands.__name__)

    def test_every_result_is_a_string(self):
        for result in run("5: 0 3\n" + "\n".join(GOOD)):
            self.assertIs(type(result), str)

    def test_each_good_line_has_the_form(self):
        for line in GOOD:
            self.assertEqual(len(run("5: 0 3\n" + line)), 1)


class BadFirstLineTest(CommandsCase):
    def test_not_the_line_of_a_table(self):
        for line in (
            "", " ", "5", "5:", "5: ", "5: 3 0", "5: 0 0", "5: 0 5", "5: 0 1 2 3 4", "1: 0", "11: 0", "05: 0 3",
            "5: 0 03", "5:  0 3", "5: 0  3", " 5: 0 3", "5: 0 3 ", "5: -1", "+5: 0 3", "show", "call 1", "5: a",
            "5" * 200 + ": 0", "5: " + "3" * 200, "5; 0 3",
        ):
            for rest in ("", "\nshow", "\ncall 1\nshow", "\n", "\nsit", "\ncall 9"):
                self.assert_bad(line + rest, 0)

    def test_the_empty_script(self):
        self.assert_bad("", 0)
        self.assert_bad("\n", 0)
        self.assert_bad("\n5: 0 3", 0)
        self.assert_bad("\n\n\n", 0)


class BadLineTest(CommandsCase):
    def test_unknown_words(self):
        self.assert_bad_line(
            "sit 1", "sit", "Call 1", "CALL 1", "calls 1", "cal 1", "call1", "1 call", "1", "0", "-", "yes", "no",
            "Undo", "undo!", "redo", "shows", "table", "log", "seat", "step", "repeats 3", "courses", "fewer",
            "all1", "alikes 1", "5: 0 3", "call_all 1", "chairs", "begun", "clone", "as_of 1", "average", "len",
            "#", "# show", "call,1",
            "call:1", "show;", "x" * 300, "~", "!")

    def test_too_few_parts(self):
        self.assert_bad_line("call", "all", "alike", "repeat")

    def test_too_many_parts(self):
        self.assert_bad_line(
            "call 1 2", "call 1 1", "call 1 x", "repeat 1 2", "repeat 1 1", "repeat 3 x", "call 1 call 2")
        for word in BARE:
            self.assert_bad_line(word + " 1", word + " 0", word + " " + word, word + " x", word + " 1 2")

    def test_chairs_that_are_not_of_the_circle(self):
        wrong = ("5", "6", "9", "10", "11", "-1", "-0", "+1", "01", "00", "04", "1.0", "1e0", "0x1", "1_0", "a", "x",
                 "1,", "1,2", "None", "9" * 12, "9" * 290, "0" * 290, "-", "*", "~", "C", "..")
        for part in wrong:
            self.assert_bad_line("call " + part)
            for word in WITH_CHAIRS:
                self.assert_bad_line(
                    f"{word} {part}", f"{word} 1 {part}", f"{word} {part} 1", f"{word} 0 4 {part} 2")

    def test_chairs_depend_on_the_size(self):
        for size in range(2, 11):
            for chair in range(12):
                for line in (f"call {chair}", f"all {chair}", f"alike {chair}", f"all 0 {chair}", f"alike {chair} 0"):
                    if chair < size:
                        self.assertEqual(len(run(f"{size}: 1\n{line}")), 1)
                    else:
                        self.assert_bad(f"{size}: 1\n{line}", 1)

    def test_numbers(self):
        self.assert_bad_line(
            "repeat 1000000000000", "repeat 9999999999999", "repeat 0000000000000", "repeat " + "9" * 290,
            "repeat " + "1" + "0" * 40, "repeat 00", "repeat 01", "repeat 007", "repeat 000000000000",
            "repeat 0999999999999", "repeat 099999999999", "repeat -1", "repeat -0", "repeat +1", "repeat 1.0",
            "repeat 1e3", "repeat 0x1", "repeat 1_000", "repeat 1,000", "repeat a", "repeat N", "repeat -", "repeat 3x")
        for many in ("0", "1", "9", "10", "100000000000", "999999999999", "123456789012"):
            self.assertEqual(run(f"5: 0 3\nrepeat {many}"), ["5: 0 3"])

    def test_spaces(self):
        for line in GOOD:
            self.assert_bad_line(" " + line, line + " ", "  " + line, line + "  ", " " + line + " ")
            if " " in line:
                self.assert_bad_line(line.replace(" ", "  "), line.replace(" ", "  ", 1), line.replace(" ", ""))
        self.assert_bad_line(" ", "  ", "all 1  2", "all 1 2  3", "alike 1  2", "call  1", "repeat  3", "all ", "call ")

    def test_empty_lines(self):
        self.assert_bad_line("")
        self.assert_bad("5: 0 3\n", 1)
        self.assert_bad("5: 0 3\nshow\n", 2)
        self.assert_bad("5: 0 3\nshow\n\n", 2)
        self.assert_bad("5: 0 3\n\nshow", 1)
        self.assert_bad("5: 0 3\n\n", 1)
        self.assert_bad("5: 0 3\n" + "show\n" * 58, 59)

    def test_the_first_bad_line_is_told(self):
        self.assert_bad("5: 0 3\nshow\nsit\ncall 9\n", 2)
        self.assert_bad("5: 3 0\nsit\ncall 9\n", 0)
        self.assert_bad("5: 0 3\ncall 9\nsit", 1)
        for at in range(1, len(GOOD) + 2):
            lines = ["5: 0 3"] + list(GOOD)
            lines.insert(at, "all 1 5")
            self.assert_bad("\n".join(lines), at)
            self.assert_bad("\n".join(lines + ["sit", ""]), at)

    def test_every_short_line_behind_a_word(self):
        chairs = {str(chair) for chair in range(5)}
        for word in ("call", "all", "repeat", "show"):
            for signs in itertools.product("0159 -", repeat=3):
                rest = "".join(signs)
                parts = rest.split(" ")
                good = {
                    "call": len(parts) == 1 and rest in chairs,
                    "all": set(parts) <= chairs,
                    "repeat": rest.isdigit() and str(int(rest)) == rest,
                    "show": False,
                }[word]
                if good:
                    self.assertEqual(len(run(f"5: 0 3\n{word} {rest}")), 1)
                else:
                    self.assert_bad(f"5: 0 3\n{word} {rest}", 1)


class BeforeAnythingTest(CommandsCase):
    def test_nothing_is_executed_if_a_line_is_bad(self):
        done = []
        first = commands.Circle

        class Watched(first):
            def call(self, chair):
                done.append(chair)
                return first.call(self, chair)

        commands.Circle = Watched
        try:
            self.assert_bad("5: 0 3\ncall 1\ncall 4\nsit", 3)
            self.assertEqual(done, [])
            run("5: 0 3\ncall 1\ncall 4")
            self.assertEqual(done, [1, 4])
        finally:
            commands.Circle = first

    def test_a_bad_line_behind_much_work(self):
        lines = ["10: 0 1 2 3 4", "all " + spaced(mixed_calls(10, 120, 1))] + ["repeat 999999999999"] * 57 + ["sit"]
        with self.assertRaises(BadScript) as held:
            within(100000, run, "\n".join(lines))
        self.assertEqual(held.exception.line, 59)


class ExamplesTest(CommandsCase):
    def test_section_12(self):
        self.assert_runs(
            "5: 0 3\ncall 1\nall 4 3 3\nshow\nsteps\ncourse\nundo", ["1", "0 0 -", "5: 1 3", "2 2", "1 2", "yes"])
        self.assert_bad("5: 0 3\nsit 1", 1)
