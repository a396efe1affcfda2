import copy
import itertools
import random
import unittest

from screenlines.columns import cut, filled_to, shared_out, wrapped
from screenlines.errors import NoNumber, NoRoom, NoText
from tests.things import Raises, any_things, plain, things_but, whole_within

SIDES = ("<", ">", "^")
NO_PLAIN_TEXTS = ("a\n", "\t", "\x1f", "\x7f", "\u00e9", "\u00a0", None, 0, True, ["a"], ("a",), [], ())
NO_WIDTHS = (0, -1, 41, 100, True, False, None, "5", [5], (5,))
NO_SIDES = ("", "<>", "<<", "v", " ", "=", "<>^", "left", None, 0, 1, True, ["<"], ("<",), [], ())


def sign_by_sign(wishes, room):
    """What each gets, with one sign after the other handed out."""
    given = [0] * len(wishes)
    for sign in range(room):
        open_ones = [number for number, wish in enumerate(wishes) if given[number] < wish]
        if open_ones:
            given[min(open_ones, key=lambda number: (given[number], number))] += 1
    return given


class TestSharedOut(unittest.TestCase, Raises):
    def test_ordinary(self):
        self.assertEqual(shared_out([5, 5, 5], 7), [3, 2, 2])
        self.assertEqual(shared_out([1, 9, 9], 8), [1, 4, 3])
        self.assertEqual(shared_out([9, 1, 9], 8), [4, 1, 3])
        self.assertEqual(shared_out([2, 3], 99), [2, 3])
        self.assertEqual(shared_out([0, 4, 0], 3), [0, 3, 0])

    def test_of_like_ones_to_the_first(self):
        self.assertEqual(shared_out([4, 4], 1), [1, 0])
        self.assertEqual(shared_out([4, 4], 3), [2, 1])
        self.assertEqual(shared_out([1, 2, 3], 4), [1, 2, 1])
        self.assertEqual(shared_out([3, 2, 1], 5), [2, 2, 1])

    def test_nothing_to_share_or_to_wish(self):
        self.assertEqual(shared_out([], 0), [])
        self.assertEqual(shared_out([], 999), [])
        self.assertEqual(shared_out([7, 7], 0), [0, 0])
        self.assertEqual(shared_out([0, 0], 50), [0, 0])

    def test_lists_and_tuples(self):
        for wishes in ([3, 9, 1], [0], [99, 99]):
            told = shared_out(tuple(wishes), 7)
            self.assertIsInstance(told, list)
            self.assertEqual(told, shared_out(wishes, 7))

    def test_all_small_ones_sign_by_sign(self):
        for many in range(5):
            for wishes in itertools.product(range(5), repeat=many):
                for room in range(sum(wishes) + 2):
                    self.assertEqual(shared_out(list(wishes), room), sign_by_sign(wishes, room), (wishes, room))

    def test_greater_ones_sign_by_sign(self):
        chance = random.Random(51)
        for turn in range(100):
            wishes = [chance.choice((0, 1, 99, chance.randint(0, 99))) for number in range(chance.randint(1, 15))]
            room = chance.choice((0, 1, 999, sum(wishes) % 1000, chance.randint(0, 999)))
            self.assertEqual(shared_out(wishes, room), sign_by_sign(wishes, room), (wishes, room))

    def test_as_even_as_can_be_and_of_more_room_none_gets_less(self):
        chance = random.Random(52)
        for turn in range(40):
            wishes = [chance.randint(0, 30) for number in range(chance.randint(1, 8))]
            before = [0] * len(wishes)
            for room in range(sum(wishes) + 5):
                given = shared_out(wishes, room)
                self.assertEqual(sum(given), min(room, sum(wishes)))
                self.assertTrue(all(got <= wish for got, wish in zip(given, wishes)))
                wanting = [got for got, wish in zip(given, wishes) if got < wish]
                self.assertTrue(max(given) - min(wanting, default=max(given)) <= 1, (wishes, room, given))
                self.assertTrue(all(more >= less for more, less in zip(given, before)))
                before = given

    def test_bounds(self):
        self.assertEqual(shared_out([99] * 11, 999), [91] * 9 + [90] * 2)
        self.assertEqual(shared_out([99] * 10, 999), [99] * 10)
        for wish in (-1, 100, 1000):
            self.refuses(NoNumber, shared_out, [wish], 5)
            self.refuses(NoNumber, shared_out, (1, wish, 2), 5)
        for room in (-1, 1000, 5000):
            self.refuses(NoRoom, shared_out, [1, 2], room)
            self.refuses(NoRoom, shared_out, [], room)

    def test_what_are_no_wishes(self):
        for wishes in (None, 5, "", "12", True, {1: 2}, [True], [1, False], [None], ["1"], [[1]], [(1,)], (1, None)):
            self.refuses(NoNumber, shared_out, wishes, 5)

    def test_any_thing(self):
        for thing in things_but(lambda thing: isinstance(thing, (list, tuple)) and all(map(whole_within(0, 99), thing))):
            self.refuses(NoNumber, shared_out, thing, 5)
        for thing in things_but(whole_within(0, 999)):
            self.refuses(NoRoom, shared_out, [1, 2], thing)

    def test_no_number_ahead_of_no_room(self):
        for room in (-1, 1000, None, True):
            self.refuses(NoNumber, shared_out, [100], room)
            self.refuses(NoNumber, shared_out, None, room)

    def test_a_new_list_and_nothing_changed(self):
        for wishes in ([3, 4], []):
            before = copy.deepcopy(wishes)
            first = shared_out(wishes, 99)
            self.assertIsNot(first, wishes)
            again = list(first)
            first.append(0)
            first[0] = None
            self.assertEqual(wishes, before)
            self.assertEqual(shared_out(wishes, 99), again)


class TestCut(unittest.TestCase, Raises):
    def test_ordinary(self):
        self.assertEqual(cut("hello", 5), "hello")
        self.assertEqual(cut("hello", 6), "hello")
        self.assertEqual(cut("hello", 4), "hel~")
        self.assertEqual(cut("hello", 2), "h~")
        self.assertEqual(cut("hello", 1), "~")
        self.assertEqual(cut("h", 1), "h")
        self.assertEqual(cut("", 1), "")

    def test_blanks_are_signs_as_others(self):
        self.assertEqual(cut("ab   ", 4), "ab ~")
        self.assertEqual(cut("ab   ", 5), "ab   ")
        self.assertEqual(cut("   ab", 4), "   ~")

    def test_bounds_of_the_width(self):
        self.assertEqual(cut("x" * 40, 40), "x" * 40)
        self.assertEqual(cut("x" * 41, 40), "x" * 39 + "~")
        self.assertEqual(cut("x" * 500, 40), "x" * 39 + "~")
        for width in NO_WIDTHS:
            self.refuses(NoRoom, cut, "hello", width)
            self.refuses(NoRoom, cut, "", width)

    def test_never_wider(self):
        for many, width in itertools.product(range(45), range(1, 41)):
            self.assertEqual(len(cut("x" * many, width)), min(many, width))

    def test_refusals(self):
        for text in NO_PLAIN_TEXTS:
            self.refuses(NoText, cut, text, 5)
            for width in NO_WIDTHS:
                self.refuses(NoText, cut, text, width)
        for thing in things_but(plain):
            self.refuses(NoText, cut, thing, 5)
        for thing in things_but(whole_within(1, 40)):
            self.refuses(NoRoom, cut, "hello", thing)

    def test_signs_from_the_blank_to_the_tilde(self):
        for code in range(300):
            text = "a" + chr(code)
            for function, more in ((cut, ()), (filled_to, ("<",))):
                if 32 <= code <= 126:
                    self.assertEqual(function(text, 2, *more), text)
                else:
                    self.refuses(NoText, function, text, 2, *more)


class TestFilledTo(unittest.TestCase, Raises):
    def test_ordinary(self):
        self.assertEqual(filled_to("ab", 5, "<"), "ab   ")
        self.assertEqual(filled_to("ab", 5, ">"), "   ab")
        self.assertEqual(filled_to("ab", 5, "^"), " ab  ")
        self.assertEqual(filled_to("ab", 6, "^"), "  ab  ")
        self.assertEqual(filled_to("abc", 6, "^"), " abc  ")
        self.assertEqual(filled_to("a", 2, "^"), "a ")

    def test_as_wide_or_wider(self):
        for side in SIDES:
            self.assertEqual(filled_to("abc", 3, side), "abc")
            self.assertEqual(filled_to("abcd", 3, side), "ab~")
            self.assertEqual(filled_to("abcd", 1, side), "~")
            self.assertEqual(filled_to("x" * 99, 40, side), "x" * 39 + "~")
            self.assertEqual(filled_to("", 4, side), "    ")

    def test_own_blanks_stay(self):
        self.assertEqual(filled_to(" a ", 6, "<"), " a    ")
        self.assertEqual(filled_to(" a ", 6, ">"), "    a ")
        self.assertEqual(filled_to(" a ", 6, "^"), "  a   ")

    def test_just_so_wide(self):
        for many, width in itertools.product(range(45), range(1, 41)):
            short, blanks = cut("x" * many, width), max(width - many, 0)
            self.assertEqual(filled_to("x" * many, width, "<"), short + " " * blanks)
            self.assertEqual(filled_to("x" * many, width, ">"), " " * blanks + short)
            ahead = blanks // 2
            self.assertEqual(filled_to("x" * many, width, "^"), " " * ahead + short + " " * (blanks - ahead))

    def test_refusals(self):
        for side in SIDES:
            for text in NO_PLAIN_TEXTS:
                self.refuses(NoText, filled_to, text, 5, side)
            for width in NO_WIDTHS:
                self.refuses(NoRoom, filled_to, "ab", width, side)
        for side in NO_SIDES:
            self.refuses(NoNumber, filled_to, "ab", 5, side)
            self.refuses(NoNumber, filled_to, "ab", 2, side)

    def test_any_thing(self):
        for thing in things_but(plain):
            self.refuses(NoText, filled_to, thing, 5, "<")
        for thing in things_but(whole_within(1, 40)):
            self.refuses(NoRoom, filled_to, "ab", thing, "<")
        for thing in any_things():
            self.refuses(NoNumber, filled_to, "ab", 5, thing)

    def test_which_comes_first(self):
        for text, width, side in itertools.product(NO_PLAIN_TEXTS, (5, 0, None), ("<", "v", None)):
            self.refuses(NoText, filled_to, text, width, side)
        for width, side in itertools.product(NO_WIDTHS, NO_SIDES):
            self.refuses(NoRoom, filled_to, "ab", width, side)


def fewest_rows(words, width):
    """The fewest rows that hold words, none of them wider than the width, tried out from the last one on."""
    fewest = [0] * (len(words) + 1)
    for begin in range(len(words) - 1, -1, -1):
        ends = [end for end in range(begin + 1, len(words) + 1) if len(" ".join(words[begin:end])) <= width]
        fewest[begin] = 1 + min(fewest[end] for end in ends)
    return fewest[0]


class TestWrapped(unittest.TestCase, Raises):
    def test_ordinary(self):
        self.assertEqual(wrapped("the quick brown fox", 10), ["the quick", "brown fox"])
        self.assertEqual(wrapped("the quick brown fox", 9), ["the quick", "brown fox"])
        self.assertEqual(wrapped("the quick brown fox", 8), ["the", "quick", "brown", "fox"])
        self.assertEqual(wrapped("the quick brown fox", 40), ["the quick brown fox"])
        self.assertEqual(wrapped("a b c", 1), ["a", "b", "c"])
        self.assertEqual(wrapped("a b c", 2), ["a", "b", "c"])
        self.assertEqual(wrapped("a b c", 3), ["a b", "c"])

    def test_no_words(self):
        for text in ("", " ", " " * 90):
            for width in (1, 5, 40):
                self.assertEqual(wrapped(text, width), [])

    def test_many_blanks_part_words_as_one_does(self):
        self.assertEqual(wrapped("  a   b  ", 5), ["a b"])
        self.assertEqual(wrapped("  a   b  ", 2), ["a", "b"])
        self.assertEqual(wrapped("   hello   ", 5), ["hello"])

    def test_other_signs_do_not_part_words(self):
        self.assertEqual(wrapped("a-b,c_d ~.", 7), ["a-b,c_d", "~."])

    def test_a_word_wider_than_the_width(self):
        self.assertEqual(wrapped("abcdefgh", 3), ["abc", "def", "gh"])
        self.assertEqual(wrapped("abcdef", 3), ["abc", "def"])
        self.assertEqual(wrapped("abcd", 3), ["abc", "d"])
        self.assertEqual(wrapped("abc", 3), ["abc"])
        self.assertEqual(wrapped("abc", 1), ["a", "b", "c"])

    def test_it_begins_a_row(self):
        self.assertEqual(wrapped("x abcdef", 5), ["x", "abcde", "f"])
        self.assertEqual(wrapped("x abcde", 5), ["x", "abcde"])
        self.assertEqual(wrapped("abcdef ghijkl", 5), ["abcde", "f", "ghijk", "l"])

    def test_its_last_row_may_take_more_words(self):
        self.assertEqual(wrapped("abcdef g h i", 5), ["abcde", "f g h", "i"])
        self.assertEqual(wrapped("abcdef ghi", 5), ["abcde", "f ghi"])
        self.assertEqual(wrapped("abcdef ghij", 5), ["abcde", "f", "ghij"])
        self.assertEqual(wrapped("abcdefghij k", 5), ["abcde", "fghij", "k"])

    def test_as_few_rows_as_can_be(self):
        chance = random.Random(53)
        for turn in range(300):
            width = chance.choice((1, 2, 5, 9, 39, 40))
            words = ["x" * chance.randint(1, min(width, 9)) for number in range(chance.randint(0, 20))]
            rows = wrapped((" " * chance.randint(1, 3)).join(words), width)
            self.assertEqual(" ".join(rows).split(), words)
            self.assertTrue(all(0 < len(row) <= width for row in rows))
            self.assertEqual(len(rows), fewest_rows(words, width))

    def test_each_row_has_as_many_as_go_into_it(self):
        chance = random.Random(54)
        for turn in range(300):
            width = chance.randint(1, 12)
            words = ["".join(chance.choice("abc") for sign in range(chance.randint(1, 20))) for number in range(8)]
            self.assertEqual(wrapped(" ".join(words), width), word_by_word(words, width))

    def test_bounds_of_the_width(self):
        self.assertEqual(wrapped("x" * 41, 40), ["x" * 40, "x"])
        for width in NO_WIDTHS:
            self.refuses(NoRoom, wrapped, "hello", width)
            self.refuses(NoRoom, wrapped, "", width)
        for thing in things_but(whole_within(1, 40)):
            self.refuses(NoRoom, wrapped, "hello", thing)

    def test_no_text_first(self):
        for text in NO_PLAIN_TEXTS:
            self.refuses(NoText, wrapped, text, 5)
            for width in NO_WIDTHS:
                self.refuses(NoText, wrapped, text, width)
        for thing in things_but(plain):
            self.refuses(NoText, wrapped, thing, 5)

    def test_a_new_list_each_time(self):
        for text in ("a b", ""):
            first = wrapped(text, 1)
            again = list(first)
            first.append("more")
            first[0] = "other"
            self.assertEqual(wrapped(text, 1), again)


def word_by_word(words, width):
    """The rows, with the words put down sign by sign at a row and a column."""
    signs, row, column = {}, 0, 0
    for word in words:
        ahead = 1 if column > 0 else 0
        if column > 0 and column + ahead + len(word) > width:
            row, column, ahead = row + 1, 0, 0
        column += ahead
        for sign in word:
            if column == width:
                row, column = row + 1, 0
            signs[row, column] = sign
            column += 1
    return ["".join(signs.get((number, spot), " ") for spot in range(width)).rstrip() for number in range(row + 1)]


if __name__ == "__main__":
    unittest.main()
