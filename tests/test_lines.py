import itertools
import unittest

from nextstands.errors import BadLine
from nextstands.lines import table_from, table_line
from tests.helpers import line_by_hand, shape, small_tables, tables_of

# Every line of a table of sizes 2 to 10, with what it says.
LINES = {line_by_hand(size, table): (size, table) for size, table in small_tables(10)}


class LinesCase(unittest.TestCase):
    def assert_bad(self, *lines):
        for line in lines:
            with self.subTest(line=line[:40]):
                with self.assertRaises(BadLine) as held:
                    table_from(line)
                self.assertIs(held.exception.line, line)


class WrittenAndReadTest(LinesCase):
    def test_every_table(self):
        for size, table in small_tables(10):
            line = table_line(size, table)
            self.assertEqual(shape(line), shape(line_by_hand(size, table)))
            self.assertEqual(shape(table_from(line)), shape((size, table)))
            self.assertEqual(table_line(*table_from(line)), line)

    def test_tables_of_size_10(self):
        self.assertEqual(table_line(10, (0, 9)), "10: 0 9")
        self.assertEqual(table_line(10, tuple(range(9))), "10: 0 1 2 3 4 5 6 7 8")
        self.assertEqual(table_from("10: 1 2 3 4 5 6 7 8 9"), (10, (1, 2, 3, 4, 5, 6, 7, 8, 9)))
        for table in tables_of(10, 5):
            self.assertEqual(table_from(table_line(10, table)), (10, table))

    def test_the_least_size(self):
        self.assertEqual(table_from("2: 0"), (2, (0,)))
        self.assertEqual(table_from("2: 1"), (2, (1,)))
        self.assertEqual(table_line(2, (1,)), "2: 1")

    def test_a_list_for_the_table(self):
        table = [0, 3]
        self.assertEqual(table_line(5, table), "5: 0 3")
        self.assertEqual(table, [0, 3])

    def test_by_name(self):
        self.assertEqual(table_line(table=(0, 3), size=5), "5: 0 3")
        self.assertEqual(table_from(line="5: 0 3"), (5, (0, 3)))
        with self.assertRaises(BadLine):
            table_from(line="5: 3 0")


class BadLineTest(LinesCase):
    def test_other_sizes(self):
        self.assert_bad(
            "0: 0", "1: 0", "0: ", "1: ", "0:", "1:", "11: 0", "11: 0 3", "12: 0", "20: 0", "99: 0", "100: 0", "101: 0",
            "010: 0", "1O: 0", "-5: 0 3", "1000000000000: 0", "5" * 5000 + ": 0 3", "two: 0", ": 0 3", " : 0 3",
            "5.0: 0 3", "1_0: 0", "0x5: 0", "5 5: 0", "5,: 0")

    def test_leading_zeros(self):
        self.assert_bad(
            "05: 0 3", "005: 0 3", "010: 0 3", "002: 0", "5: 00 3", "5: 0 03", "5: 00", "5: 01", "5: 000 3",
            "10: 09", "10: 0 09", "5: " + "0" * 5000, "5: " + "0" * 5000 + "3")

    def test_signs(self):
        self.assert_bad(
            "+5: 0 3", "-5: 0 3", "5: +0 3", "5: -0 3", "5: 0 +3", "5: 0 -3", "5: -1 3", "5: 0 - 3", "5: + 3",
            "5: 0 3-", "5: 0 3+", "--5: 0")

    def test_spaces(self):
        self.assert_bad(
            "5:  0 3", "5: 0  3", "5:   0 3", "5: 0 3 ", "5: 0 3  ", " 5: 0 3", "  5: 0 3", "5 : 0 3", "5:0 3", "5:03",
            "5: 03", "5 0 3", "5", "5 ", " 5", "5: 0\t3", "5:\t0 3", "5:\t0\t3", "5: 0 3\t", "\t5: 0 3", "5: 0 3\n",
            "\n5: 0 3", "5: 0\n3", "5:\n0 3", "5: 0 3\r", "5: 0 3\r\n", "5: 0\x0b3", "5: 0 3\x0c", "5: 0\x1c3",
            "5: 0 3\x1f", "5: 0 3\x00", "\x005: 0 3", "5: 0\x003")

    def test_no_chair(self):
        self.assert_bad("5:", "5: ", "5:  ", "5", "2:", "2: ", "10: ", "10:", ":", ": ", " ", "  ", "")

    def test_all_chairs(self):
        for size in range(2, 11):
            self.assert_bad(line_by_hand(size, range(size)))

    def test_not_ascending_or_twice(self):
        self.assert_bad(
            "5: 3 0", "5: 0 0", "5: 3 3", "5: 0 2 1", "5: 1 0 2", "5: 0 3 3", "5: 0 0 3", "5: 0 3 0", "5: 4 3 2 1",
            "3: 0 0 1", "2: 0 0", "2: 1 1", "10: 9 0", "10: 0 1 2 3 4 5 6 7 7")
        for chairs in itertools.product(range(4), repeat=3):
            line = line_by_hand(4, chairs)
            if list(chairs) == sorted(set(chairs)):
                self.assertEqual(table_from(line), (4, chairs))
            else:
                self.assert_bad(line)

    def test_chairs_that_are_too_large(self):
        for size in range(2, 11):
            for chair in (size, size + 1, 10, 11, 19, 99, 10 ** 12, 10 ** 40):
                if chair >= size:
                    self.assert_bad(f"{size}: {chair}", f"{size}: 0 {chair}")
        self.assert_bad("5: 0 " + "3" * 5000, "5: " + "9" * 5000, "10: 1" + "0" * 5000)

    def test_other_characters(self):
        self.assert_bad(
            "5: a", "5: 0 a", "5: 0 3a", "5: a0 3", "5: 0,3", "5: 0, 3", "5; 0 3", "5. 0 3", "5:: 0 3", "5: : 0 3",
            "5: 0: 3", "5: 0 : 3", "5: 5: 0 3", "(5: 0 3)", "5: (0 3)", "5: [0, 3]", "5: 0.0 3", "5: 1e0", "5: 0x0 3",
            "5: 0_0", "5: 1_0", "5: None", "5: True", "5: ~", "5: 0 3 #", "# 5: 0 3", "'5: 0 3'", "5: 0 3.", "5: l",
            "5: O 3", "table", "5 chairs: 0 3", "x" * 5000, "5: 0 3 " * 50, "5: \x7f")

    def test_the_empty_line(self):
        self.assert_bad("")

    def test_every_line_of_few_characters(self):
        for length in range(7):
            for signs in itertools.product("0123: ", repeat=length):
                line = "".join(signs)
                if line in LINES:
                    self.assertEqual(shape(table_from(line)), shape(LINES[line]))
                else:
                    with self.assertRaises(BadLine) as held:
                        table_from(line)
                    self.assertIs(held.exception.line, line)

    def test_lines_with_one_character_more_less_or_other(self):
        for line in ("5: 0 3", "10: 0 9", "2: 1", "10: 0 1 2 3 4 5 6 7 8"):
            for at in range(len(line) + 1):
                near = [line[:at] + line[at + 1:]]
                for code in range(128):
                    near += [line[:at] + chr(code) + line[at:], line[:at] + chr(code) + line[at + 1:]]
                for other in near:
                    if other in LINES:
                        self.assertEqual(table_from(other), LINES[other])
                    else:
                        with self.assertRaises(BadLine) as held:
                            table_from(other)
                        self.assertIs(held.exception.line, other)


class ExamplesTest(LinesCase):
    def test_section_11(self):
        self.assertEqual(shape(table_line(5, (0, 3))), shape("5: 0 3"))
        self.assertEqual(shape(table_from("5: 0 3")), shape((5, (0, 3))))
        self.assert_bad("5: 3 0")
