import copy
import random
import unittest

from screenlines.columns import filled_to, shared_out
from screenlines.errors import NoRoom, NoTable
from screenlines.tables import is_table, sorted_by, table, widths
from tests.things import Raises, any_things, plain, things_but, whole_within

COLUMNS = (("name", "<"), ("size", ">"), ("by", "^"))
ROWS = [("readme", "12", "a"), ("x", "3456", "bc"), ("", "7", "def")]
NO_COLUMNS = (
    (), [], None, "", 0, True, list(COLUMNS), COLUMNS[0], (("a", "<"),) * 7, (["a", "<"],), (("a",),), (("a", "<", ">"),), ((),),
    (("a", ""),), (("a", "v"),), (("a", "<>"),), (("a", None),), (("a", 0),), (("a", ("<",)),), (("a", ["<"]),), (("<", "a"),),
    ((None, "<"),), ((1, "<"),), ((True, "<"),), (("a\n", "<"),), (("\u00e9", "<"),), (("\x7f", "<"),), ((["a"], "<"),),
    COLUMNS + (None,), COLUMNS + ("a<",), ("a<",),
)
NO_ROWS = (
    (), None, "", 0, True, tuple(ROWS), [()], [("a",)], [("a", "b")], [("a", "b", "c", "d")], [["a", "b", "c"]], ["abc"],
    [("a", "b", None)], [("a", 1, "c")], [(True, "b", "c")], [("a", "b", "c\n")], [("\u00e9", "b", "c")], [("a", "\x7f", "c")],
    [("a", ["b"], "c")], [("a", ("b",), "c")], ROWS + [None], ROWS + [("a", "b")], [("a", "b", "c")] * 10, [None],
)


def column_count(many):
    return tuple((str(number), "<") for number in range(many))


class TestIsTable(unittest.TestCase):
    def test_ordinary(self):
        self.assertIs(is_table(COLUMNS, ROWS), True)
        self.assertIs(is_table(COLUMNS, []), True)
        self.assertIs(is_table((("", "<"),), [("",)]), True)
        self.assertIs(is_table((("same", "<"), ("same", "<")), [("x" * 200, "y")]), True)

    def test_bounds_of_the_columns(self):
        for many in (1, 2, 5, 6):
            self.assertIs(is_table(column_count(many), [("x",) * many]), True)
        for many in (0, 7, 9):
            self.assertIs(is_table(column_count(many), [("x",) * many]), False)
            self.assertIs(is_table(column_count(many), []), False)

    def test_bounds_of_the_rows(self):
        for many in (0, 1, 8, 9):
            self.assertIs(is_table(COLUMNS, [("a", "b", "c")] * many), True)
        for many in (10, 11, 40):
            self.assertIs(is_table(COLUMNS, [("a", "b", "c")] * many), False)

    def test_what_is_none(self):
        for columns in NO_COLUMNS:
            self.assertIs(is_table(columns, []), False, columns)
            self.assertIs(is_table(columns, ROWS), False, columns)
        for rows in NO_ROWS:
            self.assertIs(is_table(COLUMNS, rows), False, rows)
            for columns in NO_COLUMNS:
                self.assertIs(is_table(columns, rows), False)

    def test_sides(self):
        for side in ("<", ">", "^"):
            self.assertIs(is_table((("a", side),), []), True)

    def test_any_thing(self):
        for thing in any_things():
            self.assertIs(is_table(thing, []), False, thing)
            self.assertIs(is_table(COLUMNS, thing), thing == [], thing)
            self.assertIs(is_table((thing,), []), False, thing)
            self.assertIs(is_table(((thing, "<"),), []), plain(thing), thing)
            self.assertIs(is_table((("a", thing),), []), False, thing)
            fits = isinstance(thing, tuple) and len(thing) == 1 and plain(thing[0])
            self.assertIs(is_table((("a", "<"),), [thing]), fits, thing)
            self.assertIs(is_table((("a", "<"),), [(thing,)]), plain(thing), thing)


class TestWidths(unittest.TestCase, Raises):
    def test_ordinary(self):
        self.assertEqual(widths(COLUMNS, ROWS, 40), [6, 4, 3])
        self.assertEqual(widths(COLUMNS, ROWS, 15), [6, 4, 3])
        self.assertEqual(widths(COLUMNS, ROWS, 14), [5, 4, 3])
        self.assertEqual(widths(COLUMNS, ROWS, 12), [4, 3, 3])
        self.assertEqual(widths(COLUMNS, ROWS, 6), [2, 1, 1])
        self.assertEqual(widths(COLUMNS, ROWS, 5), [1, 1, 1])

    def test_the_name_counts_too(self):
        self.assertEqual(widths((("a name", "<"),), [("x",)], 40), [6])
        self.assertEqual(widths((("a name", "<"),), [], 40), [6])
        self.assertEqual(widths((("a", "<"),), [("x",), ("text",), ("yy",)], 40), [4])

    def test_one_at_least(self):
        self.assertEqual(widths((("", "<"),), [], 40), [1])
        self.assertEqual(widths((("", "<"), ("", ">")), [("", "")], 3), [1, 1])
        self.assertEqual(widths((("", "<"), ("abc", ">")), [("", "")], 40), [1, 3])

    def test_blanks_count_as_signs(self):
        self.assertEqual(widths((("a  ", "<"), ("b", "<")), [("", "   b")], 40), [3, 4])

    def test_texts_wider_than_any_wish(self):
        for many in (40, 41, 99, 100, 101, 500):
            self.assertEqual(widths((("x" * many, "<"),), [], 40), [40])
            self.assertEqual(widths((("a", "<"), ("bb", "<")), [("", "x" * many)], 40), [1, 38])
            self.assertEqual(widths((("a", "<"), ("bb", "<")), [("y" * many, "x" * many)], 40), [20, 19])

    def test_as_shared_out_gives_it(self):
        for columns, rows, room in random_tables(61, 200):
            wishes = [max([1, len(column[0])] + [len(row[number]) for row in rows]) for number, column in enumerate(columns)]
            self.assertEqual(widths(columns, rows, room), shared_out(wishes, room - len(columns) + 1))

    def test_bounds_of_the_room(self):
        for many in range(1, 7):
            columns = column_count(many)
            self.assertEqual(widths(columns, [], 2 * many - 1), [1] * many)
            self.assertEqual(len(widths(columns, [], 40)), many)
            for room in (2 * many - 2, 0, -1, 41, 100, True, None, "9", [9]):
                self.refuses(NoRoom, widths, columns, [], room)
                self.refuses(NoRoom, table, columns, [], room)

    def test_a_new_list_each_time(self):
        told = widths(COLUMNS, ROWS, 20)
        self.assertIsInstance(told, list)
        told.clear()
        self.assertEqual(widths(COLUMNS, ROWS, 20), [6, 4, 3])


def random_tables(seed, many):
    chance = random.Random(seed)
    for turn in range(many):
        count = chance.randint(1, 6)
        longest = chance.choice((0, 1, 5, 15, 60))
        columns = tuple((random_text(chance, longest), chance.choice("<>^")) for number in range(count))
        rows = [tuple(random_text(chance, longest) for number in range(count)) for row in range(chance.randint(0, 9))]
        yield columns, rows, chance.choice((2 * count - 1, 40, chance.randint(2 * count - 1, 40)))


def random_text(chance, longest):
    return "".join(chance.choice("ab c~") for sign in range(chance.randint(0, longest)))


class TestTable(unittest.TestCase, Raises):
    def test_ordinary(self):
        self.assertEqual(table(COLUMNS, ROWS, 40), [
            "name   size by ",
            "------ ---- ---",
            "readme   12  a ",
            "x      3456 bc ",
            "          7 def",
        ])

    def test_in_a_narrow_room(self):
        self.assertEqual(table(COLUMNS, ROWS, 10), [
            "na~ si~ by",
            "--- --- --",
            "re~  12 a ",
            "x   34~ bc",
            "      7 d~",
        ])
        self.assertEqual(table(COLUMNS, ROWS, 5), ["~ ~ ~", "- - -", "~ ~ a", "x ~ ~", "  7 ~"])

    def test_without_rows(self):
        self.assertEqual(table((("ab", ">"), ("", "<")), [], 40), ["ab  ", "-- -"])

    def test_one_column(self):
        self.assertEqual(table((("n", "^"),), [("abcd",), ("",)], 40), [" n  ", "----", "abcd", "    "])

    def test_each_text_is_fitted_and_no_row_is_wider_than_the_room(self):
        for columns, rows, room in random_tables(62, 200):
            told, sizes = table(columns, rows, room), widths(columns, rows, room)
            self.assertEqual(len(told), len(rows) + 2)
            self.assertTrue(all(len(row) == sum(sizes) + len(sizes) - 1 <= room for row in told))
            wanted = [tuple(column[0] for column in columns), tuple("-" * size for size in sizes)] + rows
            for row, texts in zip(told, wanted):
                fitted = [filled_to(text, size, column[1]) for text, size, column in zip(texts, sizes, columns)]
                self.assertEqual(row, " ".join(fitted))

    def test_a_new_list_and_nothing_changed(self):
        rows = copy.deepcopy(ROWS)
        first = table(COLUMNS, rows, 20)
        self.assertIsInstance(first, list)
        again = list(first)
        first.clear()
        self.assertEqual(rows, ROWS)
        self.assertEqual(table(COLUMNS, rows, 20), again)


class TestRefusals(unittest.TestCase, Raises):
    def test_what_is_no_table(self):
        for function, more in ((widths, (20,)), (table, (20,)), (sorted_by, (0,))):
            for columns in NO_COLUMNS:
                self.refuses(NoTable, function, columns, [], *more)
                self.refuses(NoTable, function, columns, ROWS, *more)
            for rows in NO_ROWS:
                self.refuses(NoTable, function, COLUMNS, rows, *more)
            for thing in any_things():
                self.refuses(NoTable, function, thing, [], *more)
                if thing != []:
                    self.refuses(NoTable, function, COLUMNS, thing, *more)

    def test_what_is_no_room(self):
        for thing in things_but(whole_within(5, 40)):
            self.refuses(NoRoom, widths, COLUMNS, ROWS, thing)
            self.refuses(NoRoom, table, COLUMNS, ROWS, thing)

    def test_no_table_ahead_of_no_room(self):
        for room in (0, 41, None, True):
            for columns, rows in ((NO_COLUMNS[0], []), (None, []), (COLUMNS, None), (COLUMNS, [("a",)])):
                self.refuses(NoTable, widths, columns, rows, room)
                self.refuses(NoTable, table, columns, rows, room)


class TestSortedBy(unittest.TestCase, Raises):
    def test_ordinary(self):
        self.assertEqual(sorted_by(COLUMNS, ROWS, 0), [ROWS[2], ROWS[0], ROWS[1]])
        self.assertEqual(sorted_by(COLUMNS, ROWS, 1), [ROWS[0], ROWS[1], ROWS[2]])
        self.assertEqual(sorted_by(COLUMNS, ROWS[::-1], 2), ROWS)
        self.assertEqual(sorted_by(COLUMNS, [], 2), [])

    def test_by_pythons_own_order(self):
        rows = [(text,) for text in ("", " ", "10", "9", "A", "a", "ab", "b", "~")]
        self.assertEqual(sorted_by((("a", ">"),), rows[::-1], 0), rows)

    def test_like_ones_as_they_were(self):
        columns = (("a", "<"), ("b", "<"))
        rows = [("y", "1"), ("x", "9"), ("y", "0"), ("x", "3"), ("y", "1"), ("x", "5")]
        self.assertEqual(sorted_by(columns, rows, 0),
                         [("x", "9"), ("x", "3"), ("x", "5"), ("y", "1"), ("y", "0"), ("y", "1")])
        self.assertEqual(sorted_by(columns, rows, 1),
                         [("y", "0"), ("y", "1"), ("y", "1"), ("x", "3"), ("x", "5"), ("x", "9")])

    def test_a_column_that_there_is_not(self):
        for place in (-1, -3, 3, 4, 100, True, False, None, "0", "name", [0], (0,)):
            self.refuses(NoTable, sorted_by, COLUMNS, ROWS, place)
            self.refuses(NoTable, sorted_by, COLUMNS, [], place)
        for many in range(1, 7):
            self.assertEqual(sorted_by(column_count(many), [], many - 1), [])
            self.refuses(NoTable, sorted_by, column_count(many), [], many)
        for thing in things_but(whole_within(0, 2)):
            self.refuses(NoTable, sorted_by, COLUMNS, ROWS, thing)

    def test_a_new_list_and_nothing_changed(self):
        for rows in (copy.deepcopy(ROWS), [], ROWS[:1]):
            before = copy.deepcopy(rows)
            first = sorted_by(COLUMNS, rows, 0)
            self.assertIsInstance(first, list)
            self.assertIsNot(first, rows)
            again = list(first)
            first.append(None)
            first[0] = None
            self.assertEqual(rows, before)
            self.assertEqual(sorted_by(COLUMNS, rows, 0), again)


if __name__ == "__main__":
    unittest.main()
