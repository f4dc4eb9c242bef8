"""What the document promises over the whole program: the same calls by functions, by a circle and by a script."""

import importlib
import inspect
import unittest
from fractions import Fraction

from nextstands.circle import Circle
from nextstands.commands import run
from nextstands.compare import lead_alike, leading_difference, move_alike, moving_difference, shows_difference
from nextstands.lines import table_from, table_line
from nextstands.packs import followed, moves_of, pack, repeated, steps_by
from nextstands.results import all_tables, beginnings_of, never_chairs, results_of, staying, sure_chairs
from nextstands.rounds import average, course, steps_after_many, table_after_many
from nextstands.tables import called, idle_calls, is_calls, is_table, mover, seats_after, steps, table_after
from nextstands.tables import tables_along
from nextstands.ways import fewest_calls, fewest_steps, way_at, way_number, ways_many
from tests.helpers import mixed_calls, small_cases, small_tables, tables_of

# The files of the interface, with the functions and classes that each of them defines.
INTERFACE = {
    "errors": ("NotWay", "BadLine", "BadScript", "NoNumber", "NoChair", "OtherPeople"),
    "tables": (
        "is_table", "is_calls", "mover", "called", "table_after", "tables_along", "idle_calls", "steps",
        "seats_after"),
    "packs": ("pack", "moves_of", "steps_by", "followed", "repeated"),
    "compare": ("move_alike", "moving_difference", "shows_difference", "lead_alike", "leading_difference"),
    "ways": ("fewest_calls", "fewest_steps", "ways_many", "way_at", "way_number"),
    "rounds": ("course", "table_after_many", "steps_after_many", "average"),
    "results": ("all_tables", "results_of", "beginnings_of", "staying", "sure_chairs", "never_chairs"),
    "circle": ("Circle",),
    "lines": ("table_line", "table_from"),
    "commands": ("run",),
}


def cases():
    """Tables of all sizes, each with some calls."""
    for size, table in small_tables(5):
        for many in (0, 1, 4, 9):
            yield size, table, mixed_calls(size, many, many + len(table))
    for size, people in ((7, 3), (8, 7), (9, 1), (10, 4), (10, 9)):
        tables = tables_of(size, people)
        for table in (tables[0], tables[len(tables) // 2], tables[-1]):
            yield size, table, mixed_calls(size, 120, people)


def spaced(numbers):
    return " ".join([str(number) for number in numbers])


def told(people):
    return " ".join(["-" if person is None else str(person) for person in people])


class InterfaceTest(unittest.TestCase):
    def test_each_name_is_defined_in_its_file(self):
        for stem, names in INTERFACE.items():
            module = importlib.import_module("nextstands." + stem)
            for name in names:
                thing = getattr(module, name)
                self.assertTrue(inspect.isfunction(thing) or inspect.isclass(thing))
                self.assertEqual((thing.__module__, thing.__name__), (module.__name__, name))


class ThreeWaysTest(unittest.TestCase):
    def test_functions_a_circle_and_a_script(self):
        for size, table, calls in cases():
            circle = Circle(size, table)
            movers = circle.call_all(calls)
            script = [table_line(size, table), "undo" if not calls else "all " + spaced(calls)]
            script += ["show", "seats", "steps", "course", "fewest", "repeat 2", "repeat 999999999999"]
            after = table_after(size, table, calls)
            self.assertEqual(circle.table(), after)
            self.assertEqual(circle.seats(), seats_after(size, table, calls))
            self.assertEqual(circle.steps(), steps(size, table, calls))
            self.assertEqual(run("\n".join(script)), [
                "no" if not calls else told(movers), table_line(size, circle.table()), spaced(circle.seats()),
                spaced(circle.steps()), spaced(course(size, table, calls)), str(fewest_calls(size, table, after)),
                table_line(size, table_after_many(size, table, calls, 2)),
                table_line(size, table_after_many(size, table, calls, 999999999999)),
            ])

    def test_call_by_call(self):
        for size, table, calls in cases():
            circle = Circle(size, table)
            along = tables_along(size, table, calls)
            idle, lines = [], [table_line(size, table)]
            expected = []
            for at, chair in enumerate(calls[:20]):
                self.assertEqual(circle.table(), along[at])
                before = circle.seats()
                person = circle.call(chair)
                self.assertEqual(mover(size, before, chair), person)
                self.assertEqual(called(size, along[at], chair), along[at + 1])
                if person is None:
                    idle.append(at)
                lines += [f"call {chair}", "show"]
                expected += [told([person]), table_line(size, circle.table())]
            self.assertEqual(idle_calls(size, table, calls[:20]), idle)
            self.assertEqual(run("\n".join(lines)), expected)
            for many in range(circle.operation_count() + 1):
                self.assertEqual(circle.as_of(many).table(), along[many])

    def test_alike(self):
        for size, table, calls in cases():
            people = len(table)
            other = calls[:3] + [0]
            circle = Circle(size, table)
            circle.call_all(calls)
            difference = moving_difference(size, people, other, circle.calls())
            lines = [table_line(size, table)] + [f"call {chair}" for chair in calls] + ["alike " + spaced(other)]
            self.assertEqual(run("\n".join(lines))[-1], "yes" if difference is None else spaced(difference))
            self.assertEqual(move_alike(size, people, other, calls), difference is None)
            self.assertEqual(shows_difference(size, people, other, calls, difference), difference is not None)

    def test_lines_and_tables(self):
        for size, people in small_cases(10):
            for table in all_tables(size, people):
                self.assertIs(is_table(size, table), True)
                self.assertEqual(table_from(table_line(size, table)), (size, table))
                self.assertEqual(run(table_line(size, table) + "\nshow"), [table_line(size, table)])


class GuaranteesTest(unittest.TestCase):
    def test_the_steps_follow_from_the_packs(self):
        for size, table, calls in cases():
            circle = Circle(size, table)
            circle.call_all(calls)
            moves = moves_of(size, len(table), circle.calls())
            self.assertEqual(steps_by(size, moves, table), circle.steps())
            self.assertEqual(moves_of(size, len(table), calls), moves)

    def test_a_pack_and_a_person_tell_lists_apart(self):
        for size, people in small_cases(6):
            for seed in range(6):
                first, second = mixed_calls(size, 4, seed), mixed_calls(size, 4, seed + 1)
                difference = moving_difference(size, people, first, second)
                apart = [
                    table for table in all_tables(size, people)
                    if steps(size, table, first) != steps(size, table, second)]
                self.assertEqual(difference is None, not apart)
                if difference is not None:
                    chair, back = difference
                    one, other = Circle(size, pack(size, people, chair)), Circle(size, pack(size, people, chair))
                    one.call_all(first)
                    other.call_all(second)
                    person = one.begun().index((chair - back) % size)
                    self.assertNotEqual(one.steps()[person], other.steps()[person])
                self.assertEqual(
                    lead_alike(size, people, first, second), leading_difference(size, people, first, second) is None)

    def test_one_after_another_and_repetitions(self):
        for size, table, calls in cases():
            people = len(table)
            moves = moves_of(size, people, calls)
            circle = Circle(size, table)
            for many in range(4):
                self.assertEqual(steps_by(size, repeated(size, moves, many), table), circle.steps())
                self.assertEqual(steps_after_many(size, table, calls, many), circle.steps())
                self.assertEqual(table_after_many(size, table, calls, many), circle.table())
                circle.call_all(calls)
            self.assertEqual(followed(size, moves, moves), repeated(size, moves, 2))

    def test_the_average_of_a_circle_in_its_period(self):
        for size, table, calls in cases():
            lead, period = course(size, table, calls)
            circle = Circle(size, table)
            for _ in range(lead):
                circle.call_all(calls)
            before, seats = circle.steps(), circle.seats()
            for _ in range(period * len(table)):
                circle.call_all(calls)
            self.assertEqual(circle.seats(), seats)
            for early, late in zip(before, circle.steps()):
                self.assertEqual(
                    Fraction(late - early, period * len(table)), Fraction(*average(size, len(table), calls)))

    def test_the_fewest_calls(self):
        for size, table, calls in cases():
            after = table_after(size, table, calls)
            many = ways_many(size, table, after)
            for number in sorted({0, many // 2, many - 1}):
                way = way_at(size, table, after, number)
                self.assertIs(is_calls(size, way), True)
                self.assertLessEqual(len(way), len(calls))
                circle = Circle(size, table)
                self.assertNotIn(None, circle.call_all(way))
                self.assertEqual(circle.table(), after)
                self.assertEqual(circle.steps(), fewest_steps(size, table, after))
                self.assertEqual(way_number(size, table, after, circle.calls()), number)

    def test_the_results(self):
        for size, people in small_cases(6):
            for many in (0, 1, 3, 8):
                calls = mixed_calls(size, many, people)
                results = results_of(size, people, calls)
                for table in all_tables(size, people):
                    circle = Circle(size, table)
                    circle.call_all(calls)
                    self.assertIn(circle.table(), results)
                    self.assertIn(table, beginnings_of(size, calls, circle.table()))
                    self.assertEqual(table in staying(size, people, calls), course(size, table, calls) == (0, 1))
                    self.assertEqual(set(sure_chairs(size, people, calls)) - set(circle.table()), set())
                    self.assertEqual(set(never_chairs(size, people, calls)) & set(circle.table()), set())

    def test_undone_operations_in_a_script(self):
        for size, table, calls in cases():
            if not calls or len(calls) > 20:
                continue
            lines, kept = [table_line(size, table)], []
            for at, chair in enumerate(calls):
                lines.append(f"call {chair}")
                kept.append(chair)
                if at % 3 == 2:
                    lines.append("undo")
                    kept.pop()
            circle = Circle(size, table)
            circle.call_all(kept)
            queries = ["show", "seats", "steps", "course", "fewest", "repeat 5", "alike 0 1"]
            if kept:
                plain = run("\n".join([table_line(size, table), "all " + spaced(kept)] + queries))[1:]
                self.assertEqual(run("\n".join(lines + queries))[-len(queries):], plain)
                self.assertEqual(plain[0], table_line(size, circle.table()))
