import copy
import inspect
import unittest

from nextstands import commands, compare, lines, packs, results, rounds, tables, ways
from nextstands.errors import BadLine, BadScript, NoNumber, NotWay, OtherPeople
from tests.helpers import as_lists, as_tuples, mixed_calls, shape, within

MOVES = ((0, 2), (0, 3), (0, 0), (0, 0), (0, 1))

# For each function: its module, its name, its arguments by the names of the document.
FUNCTIONS = (
    (tables, "is_table", {"size": 5, "thing": (0, 3)}),
    (tables, "is_calls", {"size": 5, "thing": [4, 4]}),
    (tables, "mover", {"size": 5, "table": (0, 3), "chair": 1}),
    (tables, "called", {"size": 5, "table": (0, 3), "chair": 1}),
    (tables, "table_after", {"size": 5, "table": (0, 3), "calls": [1, 4, 3]}),
    (tables, "tables_along", {"size": 5, "table": (0, 3), "calls": [1, 4, 3]}),
    (tables, "idle_calls", {"size": 5, "table": (0, 3), "calls": [3, 1, 3]}),
    (tables, "steps", {"size": 5, "table": (0, 3), "calls": [1, 4, 3]}),
    (tables, "seats_after", {"size": 5, "table": (0, 3), "calls": [1, 4, 3]}),
    (packs, "pack", {"size": 5, "people": 2, "chair": 0}),
    (packs, "moves_of", {"size": 5, "people": 2, "calls": [2]}),
    (packs, "steps_by", {"size": 5, "moves": MOVES, "table": (0, 3)}),
    (packs, "followed", {"size": 5, "first": MOVES, "second": MOVES}),
    (packs, "repeated", {"size": 5, "moves": MOVES, "many": 3}),
    (compare, "move_alike", {"size": 5, "people": 2, "first": [1, 1], "second": [1]}),
    (compare, "moving_difference", {"size": 3, "people": 1, "first": [0], "second": [1, 0]}),
    (compare, "shows_difference", {"size": 3, "people": 1, "first": [0], "second": [1, 0], "thing": (0, 0)}),
    (compare, "lead_alike", {"size": 3, "people": 1, "first": [0], "second": [1, 0]}),
    (compare, "leading_difference", {"size": 5, "people": 2, "first": [0, 3], "second": [3, 1]}),
    (ways, "fewest_calls", {"size": 5, "first": (0, 3), "second": (1, 3)}),
    (ways, "fewest_steps", {"size": 5, "first": (0, 3), "second": (1, 3)}),
    (ways, "ways_many", {"size": 5, "first": (0, 3), "second": (2, 4)}),
    (ways, "way_at", {"size": 5, "first": (0, 3), "second": (2, 4), "number": 1}),
    (ways, "way_number", {"size": 5, "first": (0, 3), "second": (2, 4), "calls": [4, 2]}),
    (rounds, "course", {"size": 5, "table": (0, 3), "calls": [1, 4, 3, 3]}),
    (rounds, "table_after_many", {"size": 5, "table": (0, 3), "calls": [1, 4, 3, 3], "many": 2}),
    (rounds, "steps_after_many", {"size": 5, "table": (0, 3), "calls": [1, 4], "many": 2}),
    (rounds, "average", {"size": 5, "people": 2, "calls": [1, 4, 3, 3]}),
    (results, "all_tables", {"size": 4, "people": 2}),
    (results, "results_of", {"size": 4, "people": 2, "calls": [2]}),
    (results, "beginnings_of", {"size": 4, "calls": [2], "table": (0, 2)}),
    (results, "staying", {"size": 3, "people": 2, "calls": [2]}),
    (results, "sure_chairs", {"size": 4, "people": 2, "calls": [2]}),
    (results, "never_chairs", {"size": 3, "people": 1, "calls": [0]}),
    (lines, "table_line", {"size": 5, "table": (0, 3)}),
    (lines, "table_from", {"line": "5: 0 3"}),
    (commands, "run", {"script": "5: 0 3\ncall 1\nall 4 3 3\nshow"}),
)

# The same with nothing to do, where a result is most easily the argument itself.
IDLE = (
    (tables, "called", {"size": 5, "table": (0, 3), "chair": 3}),
    (tables, "table_after", {"size": 5, "table": (0, 3), "calls": []}),
    (tables, "tables_along", {"size": 5, "table": (0, 3), "calls": []}),
    (tables, "idle_calls", {"size": 5, "table": (0, 3), "calls": []}),
    (tables, "steps", {"size": 5, "table": (0, 3), "calls": []}),
    (tables, "seats_after", {"size": 5, "table": (0, 3), "calls": []}),
    (packs, "repeated", {"size": 5, "moves": MOVES, "many": 0}),
    (packs, "repeated", {"size": 5, "moves": MOVES, "many": 1}),
    (compare, "moving_difference", {"size": 3, "people": 1, "first": [], "second": []}),
    (compare, "leading_difference", {"size": 3, "people": 1, "first": [], "second": []}),
    (ways, "fewest_steps", {"size": 5, "first": (0, 3), "second": (0, 3)}),
    (ways, "way_at", {"size": 5, "first": (0, 3), "second": (0, 3), "number": 0}),
    (ways, "way_number", {"size": 5, "first": (0, 3), "second": (0, 3), "calls": []}),
    (rounds, "course", {"size": 5, "table": (0, 3), "calls": []}),
    (rounds, "table_after_many", {"size": 5, "table": (0, 3), "calls": [], "many": 3}),
    (rounds, "table_after_many", {"size": 5, "table": (0, 3), "calls": [1], "many": 0}),
    (rounds, "steps_after_many", {"size": 5, "table": (0, 3), "calls": [], "many": 3}),
    (rounds, "steps_after_many", {"size": 5, "table": (0, 3), "calls": [1], "many": 0}),
    (rounds, "average", {"size": 5, "people": 2, "calls": []}),
    (results, "results_of", {"size": 4, "people": 2, "calls": []}),
    (results, "beginnings_of", {"size": 4, "calls": [], "table": (0, 2)}),
    (results, "beginnings_of", {"size": 4, "calls": [2], "table": (0, 1)}),
    (results, "staying", {"size": 3, "people": 2, "calls": []}),
    (results, "sure_chairs", {"size": 4, "people": 2, "calls": []}),
    (results, "never_chairs", {"size": 3, "people": 1, "calls": []}),
    (commands, "run", {"script": "5: 0 3"}),
)

# Calls that raise an error: the function, its arguments, the error, its field, and what the field equals.
FAILING = (
    (ways.fewest_calls, {"size": 5, "first": (0, 3), "second": (2,)}, OtherPeople, "many", 1),
    (ways.fewest_steps, {"size": 5, "first": (0,), "second": (2, 3)}, OtherPeople, "many", 2),
    (ways.ways_many, {"size": 5, "first": (0, 3), "second": (2,)}, OtherPeople, "many", 1),
    (ways.way_at, {"size": 5, "first": (0, 3), "second": (2,), "number": 9}, OtherPeople, "many", 1),
    (ways.way_at, {"size": 5, "first": (0, 3), "second": (2, 4), "number": 2}, NoNumber, "number", 2),
    (ways.way_number, {"size": 5, "first": (0, 3), "second": (2,), "calls": [1]}, OtherPeople, "many", 1),
    (ways.way_number, {"size": 5, "first": (0, 3), "second": (1, 3), "calls": [3, 1]}, NotWay, "way", [3, 1]),
    (lines.table_from, {"line": "5: 3 0"}, BadLine, "line", "5: 3 0"),
    (commands.run, {"script": "5: 0 3\nsit 1"}, BadScript, "line", 1),
)


def spoil(value):
    """Change every list in the value."""
    if isinstance(value, (list, tuple)):
        for item in value:
            spoil(item)
    if isinstance(value, list):
        value.append(99)


class ConventionsTest(unittest.TestCase):
    def each(self, cases=FUNCTIONS + IDLE):
        return [(getattr(module, name), named) for module, name, named in cases]

    def test_defined_in_its_file(self):
        for module, name, named in FUNCTIONS:
            function = getattr(module, name)
            self.assertTrue(inspect.isfunction(function))
            self.assertEqual(function.__module__, module.__name__)
            self.assertEqual(function.__name__, name)

    def test_by_position_and_by_name(self):
        for function, named in self.each():
            expected = shape(function(*named.values()))
            self.assertEqual(shape(function(**named)), expected)
            self.assertEqual(shape(function(**dict(reversed(named.items())))), expected)

    def test_no_other_arguments(self):
        for function, named in self.each(FUNCTIONS):
            self.assertEqual(list(inspect.signature(function).parameters), list(named))

    def test_lists_for_tuples_and_tuples_for_lists(self):
        for function, named in self.each():
            if "thing" in named:
                continue
            expected = shape(function(**named))
            for turned in (as_lists, as_tuples):
                self.assertEqual(shape(function(**{key: turned(named[key]) for key in named})), expected)

    def test_mixed_depths(self):
        mixed = [MOVES[0], list(MOVES[1]), MOVES[2], list(MOVES[3]), MOVES[4]]
        self.assertEqual(shape(packs.repeated(5, mixed, 1)), shape(MOVES))
        self.assertEqual(packs.followed(5, tuple(mixed), mixed), packs.followed(5, MOVES, MOVES))
        self.assertEqual(packs.steps_by(5, mixed, [0, 3]), [0, 1])

    def test_only_the_exact_kind_counts_for_thing(self):
        self.assertIs(tables.is_table(5, [0, 3]), False)
        self.assertIs(tables.is_calls(5, (4, 4)), False)

        self.assertIs(compare.shows_difference(3, 1, [0], [1, 0], [0, 0]), False)
        # The other arguments of that function may be tuples.
        self.assertIs(compare.shows_difference(3, 1, (0,), (1, 0), (0, 0)), True)

    def test_errors_by_position_and_by_name(self):
        for function, named, kind, field, worth in FAILING:
            for turned in (lambda value: value, as_lists, as_tuples):
                given = {key: turned(named[key]) for key in named}
                before = copy.deepcopy(given)
                for call in (lambda: function(**given), lambda: function(*given.values())):
                    with self.assertRaises(kind) as held:
                        call()
                    self.assertEqual(shape(getattr(held.exception, field)), shape(turned(worth)))
                self.assertEqual(
                    [shape(given[key]) for key in given], [shape(before[key]) for key in before])

    def test_arguments_stay_unchanged(self):
        for function, named in self.each():
            for turned in (lambda value: value, as_lists, as_tuples):
                given = {key: turned(named[key]) for key in named}
                before = copy.deepcopy(given)
                function(**given)
                self.assertEqual(
                    [shape(given[key]) for key in given], [shape(before[key]) for key in before])

    def test_changing_a_result_has_no_effect_on_a_later_call(self):
        for function, named in self.each():
            given = {key: as_lists(named[key]) if key != "thing" else named[key] for key in named}
            expected = shape(function(**given))
            for _ in range(3):
                result = function(**given)
                self.assertEqual(shape(result), expected)
                spoil(result)
            self.assertEqual(shape(function(**given)), expected)

    def test_changing_an_argument_has_no_effect_on_a_result(self):
        for function, named in self.each():
            given = {key: as_lists(named[key]) for key in named}
            result = function(**given)
            expected = shape(copy.deepcopy(result))
            for value in given.values():
                spoil(value)
            self.assertEqual(shape(result), expected)
            self.assertEqual(shape(function(**{key: as_lists(named[key]) for key in named})), expected)

    def test_each_call_returns_new_lists(self):
        for function, named in self.each():
            first, second = function(**named), function(**named)
            if isinstance(first, list):
                self.assertIsNot(first, second)

    def test_results_may_be_passed_in_again(self):
        moves = within(1000000, packs.repeated, 5, MOVES, 10 ** 12)
        moves = within(1000000, packs.repeated, 5, moves, 10 ** 12)
        self.assertEqual(
            packs.followed(5, moves, MOVES), within(1000000, packs.repeated, 5, MOVES, 10 ** 24 + 1))
        self.assertEqual(len(packs.steps_by(5, moves, (0, 3))), 2)
        self.assertIs(tables.is_table(5, tables.table_after(5, (0, 3), [1])), True)
        self.assertIs(tables.is_calls(5, tables.seats_after(5, (0, 3), [1])), True)
        difference = compare.moving_difference(5, 2, [1], [2])
        self.assertIs(compare.shows_difference(5, 2, [1], [2], difference), True)
        table = compare.leading_difference(5, 2, [1], [2])
        self.assertIs(tables.is_table(5, table), True)
        way = ways.way_at(5, (0, 3), table, ways.ways_many(5, (0, 3), table) - 1)
        self.assertEqual(tables.table_after(5, (0, 3), way), table)
        self.assertEqual(results.beginnings_of(5, way, results.results_of(5, 2, way)[0])[:1], [(0, 1)])
        lead, period = rounds.course(5, table, way)
        returning = rounds.table_after_many(5, table, way, lead)
        self.assertEqual(rounds.table_after_many(5, returning, way, period), returning)
        self.assertEqual(lines.table_from(lines.table_line(5, returning)), (5, returning))

    def test_somewhat_beyond_the_bounds(self):
        calls = mixed_calls(13, 400, 1)
        moves = packs.moves_of(13, 6, calls)
        table = (0, 2, 3, 7, 11, 12)
        self.assertEqual(packs.steps_by(13, moves, table), tables.steps(13, table, calls))
        most = within(1000000, packs.repeated, 13, moves, 10 ** 13)
        before = within(1000000, packs.repeated, 13, moves, 10 ** 13 - 1)
        self.assertEqual(packs.followed(13, before, moves), most)
        self.assertIs(compare.move_alike(13, 6, calls, calls + calls[-1:]), True)
        self.assertIs(compare.lead_alike(13, 6, calls, calls + calls[-1:]), True)
        self.assertIn(tables.table_after(13, table, calls), results.results_of(13, 6, calls))
        after = within(1000000, rounds.table_after_many, 13, table, calls, 10 ** 13)
        self.assertEqual(rounds.course(13, after, calls)[0], 0)
        self.assertEqual(
            within(1000000, rounds.steps_after_many, 13, table, calls, 10 ** 13), packs.steps_by(13, most, table))
        self.assertGreater(rounds.average(13, 6, calls)[0], 0)
        self.assertEqual(lines.table_line(13, table), "13: 0 2 3 7 11 12")
        self.assertEqual(ways.ways_many(14, tuple(range(1, 14, 2)), tuple(range(0, 14, 2))), 5040)
        self.assertEqual(packs.moves_of(3, 3, [0, 1, 2]), ((0, 0, 0),) * 3)
        self.assertEqual(packs.pack(3, 3, 1), (0, 1, 2))
