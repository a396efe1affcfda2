import copy
import fractions
import itertools
import math
import random
import unittest

from screenlines.bars import bar, bar_means, clock, counted, percent, read_clock, time_left
from screenlines.errors import NoNumber, NoRoom, NoText
from tests.things import Raises, any_things, things_but, whole_within

MOST = 1000000000
NO_TOTALS = (0, -1, MOST + 1, True, False, None, "9", [9], (9,))
NO_COUNTS = ((-1, 10), (11, 10), (2, 1), (MOST + 1, MOST))
GREAT_TOTALS = (999, 1000, 12345, 999999999, MOST)


class RefusesCounts(Raises):
    def refuses_other_counts(self, function):
        for total in NO_TOTALS:
            self.refuses(NoNumber, function, 0, total)
        for done, total in NO_COUNTS:
            self.refuses(NoNumber, function, done, total)
        for thing in things_but(whole_within(0, 20)):
            self.refuses(NoNumber, function, thing, 20)
        for thing in things_but(whole_within(1, MOST)):
            self.refuses(NoNumber, function, 0, thing)
            self.refuses(NoNumber, function, thing, thing)


class TestBar(unittest.TestCase, Raises):
    def test_ordinary(self):
        self.assertEqual(bar(0, 10, 12), "[..........]")
        self.assertEqual(bar(3, 10, 12), "[###.......]")
        self.assertEqual(bar(10, 10, 12), "[##########]")
        self.assertEqual(bar(1, 2, 7), "[##...]")

    def test_rounded_down(self):
        self.assertEqual(bar(9, 10, 3), "[.]")
        self.assertEqual(bar(2, 3, 4), "[#.]")
        self.assertEqual(bar(MOST - 1, MOST, 40), "[" + "#" * 37 + ".]")
        self.assertEqual(bar(MOST - 1, MOST, 3), "[.]")
        self.assertEqual(bar(26315789, MOST, 40), "[" + "." * 38 + "]")
        self.assertEqual(bar(26315790, MOST, 40), "[#" + "." * 37 + "]")

    def test_all_of_small_totals(self):
        for total in range(1, 13):
            for done in range(total + 1):
                for width in range(3, 41):
                    full = math.floor(fractions.Fraction(done, total) * (width - 2))
                    self.assertEqual(bar(done, total, width), "[" + "#" * full + "." * (width - 2 - full) + "]")

    def test_full_just_when_all_is_done_and_never_shrinking(self):
        for total in (1, 2, 7, 38, 39, 100):
            for width in (3, 4, 20, 40):
                counts = [bar(done, total, width).count("#") for done in range(total + 1)]
                self.assertEqual(counts, sorted(counts))
                self.assertEqual([count == width - 2 for count in counts], [False] * total + [True])
        for total in GREAT_TOTALS:
            for width in range(3, 41):
                self.assertIn(".", bar(total - 1, total, width))
                self.assertNotIn(".", bar(total, total, width))

    def test_bounds_of_the_total(self):
        self.assertEqual(bar(0, 1, 3), "[.]")
        self.assertEqual(bar(1, 1, 3), "[#]")
        self.assertEqual(bar(MOST, MOST, 3), "[#]")
        for total in NO_TOTALS:
            self.refuses(NoNumber, bar, 0, total, 10)
            self.refuses(NoNumber, bar, total, total, 10)

    def test_bounds_of_the_count(self):
        for done, total in NO_COUNTS:
            self.refuses(NoNumber, bar, done, total, 10)

    def test_bounds_of_the_width(self):
        self.assertEqual(len(bar(1, 2, 40)), 40)
        for width in (2, 1, 0, -3, 41, 100):
            self.refuses(NoRoom, bar, 1, 2, width)

    def test_any_thing(self):
        for thing in things_but(whole_within(0, 20)):
            self.refuses(NoNumber, bar, thing, 20, 10)
        for thing in things_but(whole_within(1, MOST)):
            self.refuses(NoNumber, bar, 0, thing, 10)
        for thing in things_but(whole_within(3, 40)):
            self.refuses(NoRoom, bar, 0, 1, thing)

    def test_truths_are_no_numbers(self):
        self.refuses(NoNumber, bar, True, 1, 3)
        self.refuses(NoNumber, bar, False, 1, 3)
        self.refuses(NoNumber, bar, 1, True, 3)

    def test_no_number_ahead_of_no_room(self):
        for width in (2, 41, None, True):
            self.refuses(NoNumber, bar, 3, 2, width)
            self.refuses(NoNumber, bar, 0, 0, width)
            self.refuses(NoNumber, bar, None, None, width)


class TestBarMeans(unittest.TestCase, Raises):
    def test_ordinary(self):
        self.assertEqual(bar_means("[###.......]", 100), (30, 39))
        self.assertEqual(bar_means("[..........]", 100), (0, 9))
        self.assertEqual(bar_means("[##########]", 100), (100, 100))
        self.assertEqual(bar_means("[.]", MOST), (0, MOST - 1))
        self.assertEqual(bar_means("[#]", MOST), (MOST, MOST))
        self.assertIsInstance(bar_means("[#]", 1), tuple)

    def test_all_of_small_totals(self):
        for total in tuple(range(1, 13)) + (37, 38, 39, 77):
            for width in range(3, 41):
                having = {}
                for done in range(total + 1):
                    having.setdefault(bar(done, total, width), []).append(done)
                for full in range(width - 1):
                    text = "[" + "#" * full + "." * (width - 2 - full) + "]"
                    if text in having:
                        self.assertEqual(bar_means(text, total), (having[text][0], having[text][-1]))
                    else:
                        self.refuses(NoText, bar_means, text, total)

    def test_great_totals(self):
        for total in GREAT_TOTALS:
            for width in range(3, 41):
                behind = -1
                for full in range(width - 1):
                    text = "[" + "#" * full + "." * (width - 2 - full) + "]"
                    low, high = bar_means(text, total)
                    self.assertEqual(low, behind + 1)
                    self.assertEqual(bar(low, total, width), text)
                    self.assertEqual(bar(high, total, width), text)
                    behind = high
                self.assertEqual(behind, total)

    def test_a_bar_that_no_count_has(self):
        self.refuses(NoText, bar_means, "[#.]", 1)
        self.assertEqual(bar_means("[#.]", 2), (1, 1))
        self.refuses(NoText, bar_means, "[##...]", 1)
        self.refuses(NoText, bar_means, "[" + "#" * 37 + ".]", 37)
        self.assertEqual(bar_means("[" + "#" * 37 + ".]", 38), (37, 37))

    def test_bounds_of_the_width(self):
        self.assertEqual(bar_means("[" + "#" * 38 + "]", 5), (5, 5))
        for text in ("", "[", "[]", "[" + "#" * 39 + "]", "[" + "." * 39 + "]", "[" + "." * 90 + "]"):
            self.refuses(NoText, bar_means, text, 5)

    def test_all_short_texts(self):
        bars = {bar(done, 60, width) for done in range(61) for width in range(3, 7)}
        for many in range(7):
            for signs in itertools.product("[#.] ", repeat=many):
                text = "".join(signs)
                if text not in bars:
                    self.refuses(NoText, bar_means, text, 60)

    def test_what_is_no_bar(self):
        for text in ("[.#]", "[#.#]", "#.", "[#.", "#.]", "(#.)", "[# ]", " [#.]", "[#.] ", "[#.]\n", "[##-]", "[#.]]", "[[#.]",
                     "]#.[", "###", "...", ["[", "#", ".", "]"], ("[#.]",), None, 5, True):
            self.refuses(NoText, bar_means, text, 60)
        for thing in any_things():
            self.refuses(NoText, bar_means, thing, 60)

    def test_what_is_no_total(self):
        for total in NO_TOTALS:
            self.refuses(NoNumber, bar_means, "[#.]", total)
        for thing in things_but(whole_within(1, MOST)):
            self.refuses(NoNumber, bar_means, "[#.]", thing)

    def test_no_text_ahead_of_no_number(self):
        for total in NO_TOTALS:
            for text in ("[.#]", "", None, 5, ["[#]"]):
                self.refuses(NoText, bar_means, text, total)


class TestPercent(unittest.TestCase, RefusesCounts):
    def test_ordinary(self):
        self.assertEqual(percent(0, 7), "  0")
        self.assertEqual(percent(1, 2), " 50")
        self.assertEqual(percent(7, 7), "100")
        self.assertEqual(percent(9, 100), "  9")
        self.assertEqual(percent(10, 100), " 10")

    def test_rounded_down(self):
        self.assertEqual(percent(2, 3), " 66")
        self.assertEqual(percent(1, 101), "  0")
        self.assertEqual(percent(MOST - 1, MOST), " 99")
        self.assertEqual(percent(9999999, MOST), "  0")
        self.assertEqual(percent(10000000, MOST), "  1")
        self.assertEqual(percent(MOST, MOST), "100")

    def test_all_of_small_totals(self):
        for total in range(1, 130):
            for done in range(total + 1):
                told = percent(done, total)
                self.assertEqual(len(told), 3)
                self.assertEqual(told, f"{math.floor(fractions.Fraction(100 * done, total)):3}")

    def test_refusals(self):
        self.refuses_other_counts(percent)


class TestCounted(unittest.TestCase, RefusesCounts):
    def test_ordinary(self):
        self.assertEqual(counted(3, 120), "  3/120")
        self.assertEqual(counted(0, 120), "  0/120")
        self.assertEqual(counted(99, 120), " 99/120")
        self.assertEqual(counted(100, 120), "100/120")
        self.assertEqual(counted(120, 120), "120/120")
        self.assertEqual(counted(0, 1), "0/1")
        self.assertEqual(counted(1, MOST), "         1/1000000000")
        self.assertEqual(counted(MOST, MOST), "1000000000/1000000000")

    def test_as_wide_as_of_the_total(self):
        for total in (1, 9, 10, 99, 100, 120):
            for done in range(total + 1):
                told = counted(done, total)
                self.assertEqual(len(told), len(counted(total, total)))
                self.assertEqual(told.lstrip(" "), f"{done}/{total}")

    def test_refusals(self):
        self.refuses_other_counts(counted)


KNOWN_CLOCKS = (
    (0, "0:00"), (5, "0:05"), (59, "0:59"), (60, "1:00"), (65, "1:05"), (600, "10:00"), (3599, "59:59"),
    (3600, "1:00:00"), (3605, "1:00:05"), (3665, "1:01:05"), (7199, "1:59:59"), (7200, "2:00:00"), (35999, "9:59:59"),
    (36000, "10:00:00"), (86400, "24:00:00"), (360000, "100:00:00"), (MOST, "277777:46:40"), (MOST - 1, "277777:46:39"),
)


class TestClock(unittest.TestCase, Raises):
    def test_known(self):
        for seconds, text in KNOWN_CLOCKS:
            self.assertEqual(clock(seconds), text)

    def test_many(self):
        for seconds in list(range(8000)) + list(range(8000, MOST, 99999937)):
            hours, minutes = seconds // 3600, seconds // 60
            expected = f"{hours}:{minutes % 60:02}:{seconds % 60:02}" if hours else f"{minutes}:{seconds % 60:02}"
            self.assertEqual(clock(seconds), expected)

    def test_refusals(self):
        for seconds in (-1, MOST + 1, True, False, None, "5", [5]):
            self.refuses(NoNumber, clock, seconds)
        for thing in things_but(whole_within(0, MOST)):
            self.refuses(NoNumber, clock, thing)


class TestReadClock(unittest.TestCase, Raises):
    def test_known(self):
        for seconds, text in KNOWN_CLOCKS:
            self.assertEqual(read_clock(text), seconds)

    def test_a_clock_reads_back(self):
        chance = random.Random(41)
        for seconds in list(range(8000)) + [chance.randint(0, MOST) for turn in range(2000)]:
            self.assertEqual(read_clock(clock(seconds)), seconds)

    def test_all_short_texts(self):
        known = {clock(seconds): seconds for seconds in range(36000)}
        for many in range(8):
            for signs in itertools.product("0569:", repeat=many):
                text = "".join(signs)
                if text in known:
                    self.assertEqual(read_clock(text), known[text])
                else:
                    self.refuses(NoText, read_clock, text)

    def test_other_texts(self):
        for text in ("", ":", "0", "5", "05", ":05", "5:", "1:5", "1:005", "01:05", "00:05", "1:60", "60:00", "99:59", "0:00:05",
                     "0:59:59", "1:0:05", "1:00:5", "1:60:00", "1:00:60", "01:00:05", "1:1:00:05", "1:00:00:00", " 1:05",
                     "1:05 ", "1: 5", "1:05\n", "+1:05", "-1:05", "1:-5", "1:+5", "1.05", "1_0:05", "1:0_5", "a:05", "1:ab",
                     "1;05", "1::05", "\u0661:05", "1:\u0660\u0665", "\u00b2:05", "1:0\u00b2", "277777:46:41", "277778:00:00",
                     "1000000:00:00", "0277777:46:40", "9" * 5000 + ":00", "1:" + "0" * 5000, "0" * 5000 + "1:05"):
            self.refuses(NoText, read_clock, text)

    def test_any_thing(self):
        for thing in any_things() + [["1:05"], ("1:05",), 65, None, b"1:05"]:
            self.refuses(NoText, read_clock, thing)


class TestTimeLeft(unittest.TestCase, Raises):
    def test_ordinary(self):
        self.assertEqual(time_left([(0, 0), (10, 5)], 20, 2), 30)
        self.assertEqual(time_left([(5, 2), (7, 3), (15, 7)], 9, 3), 4)

    def test_rounded_up(self):
        self.assertEqual(time_left([(0, 0), (10, 3)], 4, 2), 4)
        self.assertEqual(time_left([(0, 0), (10, 3)], 6, 2), 10)
        self.assertEqual(time_left([(0, 0), (1, 999999999)], MOST, 2), 1)
        self.assertEqual(time_left([(0, 0), (MOST, 1)], MOST, 2), MOST * (MOST - 1))
        self.assertEqual(time_left([(0, 0), (MOST, 3)], MOST, 2), -(-MOST * (MOST - 3) // 3))

    def test_of_all_small_numbers(self):
        for total, first, last, time in itertools.product((7, 8), range(7), range(7), range(1, 8)):
            if first <= last:
                told = time_left([(3, first), (3 + time, last)], total, 2)
                if first == last:
                    self.assertIsNone(told)
                else:
                    self.assertEqual(told, math.ceil(fractions.Fraction((total - last) * time, last - first)))

    def test_by_the_last_many_alone(self):
        samples = [(0, 0), (1, 40), (2, 41), (4, 43), (10, 44), (20, 46)]
        self.assertEqual(time_left(samples, 50, 2), 20)
        self.assertEqual(time_left(samples, 50, 3), 22)
        self.assertEqual(time_left(samples, 50, 4), 15)
        self.assertEqual(time_left(samples, 50, 5), 13)
        self.assertEqual(time_left(samples, 50, 6), 2)
        for many in (7, 8, 98, 99):
            self.assertEqual(time_left(samples, 50, many), 2)

    def test_of_ninety_nine_and_of_more_samples(self):
        samples = [(0, 0)] + [(time, 50 + time) for time in range(1, 100)]
        self.assertEqual(time_left(samples, 200, 99), 51)
        self.assertEqual(time_left(samples, 200, 98), 51)
        self.assertEqual(time_left([(0, 0)] + samples[2:], 200, 99), math.ceil(fractions.Fraction(51 * 99, 149)))

    def test_all_done(self):
        self.assertEqual(time_left([(0, 0), (10, 20)], 20, 2), 0)
        self.assertEqual(time_left([(10, 20)], 20, 2), 0)
        self.assertEqual(time_left([(10, 20), (11, 20)], 20, 2), 0)
        self.assertEqual(time_left([(0, 1), (1, 20), (2, 20), (3, 20)], 20, 2), 0)

    def test_nothing_more_is_done(self):
        for samples in ([(10, 5)], [(10, 0)], [(10, 5), (20, 5)], [(0, 0), (10, 5), (20, 5)], [(0, 0), (1, 0), (2, 0)]):
            self.assertIsNone(time_left(samples, 20, 2))
        self.assertEqual(time_left([(0, 0), (10, 5), (20, 5)], 20, 3), 60)

    def test_none_at_all(self):
        self.assertIsNone(time_left([], 20, 2))
        self.assertIsNone(time_left([], 1, 99))

    def test_what_goes_on_evenly_takes_as_long_as_it_takes(self):
        for step, pace in itertools.product(range(1, 6), range(1, 6)):
            samples = [(7 + step * turn, pace * turn) for turn in range(30)]
            for many in (2, 3, 29, 30, 31, 99):
                for seen in range(2, 30):
                    told = time_left(samples[:seen], pace * 29, many)
                    self.assertEqual(samples[seen - 1][0] + told, samples[29][0])

    def test_what_are_no_samples(self):
        for samples in ([(1, 1), (1, 2)], [(2, 1), (1, 2)], [(0, 0), (5, 5), (5, 6)], [(1, 2), (2, 1)], [(0, 0), (1, 3), (2, 2)],
                        [(-1, 0)], [(MOST + 1, 0)], [(0, -1)], [(0, 21)], [(0, 0), (1, 21)], [[0, 0]], [(0,)], [(0, 0, 0)], [()],
                        [0, 0], [(True, 0)], [(0, True)], [(0, 0), (True, 1)], [(0, False)], [(None, 0)], [("0", 0)], [(0, "0")],
                        [None], ["ab"], ((0, 0), (1, 1)), (), None, "", "ab", 0, True, [(0, 0), (10, 20), (5, 20)],
                        [(9, 0), (1, 1), (2, 2)], [(0, 5), (1, 1), (2, 2)]):
            self.refuses(NoNumber, time_left, samples, 20, 2)

    def test_bounds_of_samples(self):
        self.assertEqual(time_left([(0, 0), (MOST, 20)], 20, 2), 0)
        self.assertEqual(time_left([(0, 0), (MOST, 19)], 20, 2), math.ceil(fractions.Fraction(MOST, 19)))
        self.assertEqual(time_left([(0, MOST)], MOST, 2), 0)

    def test_what_is_no_total(self):
        for total in NO_TOTALS:
            self.refuses(NoNumber, time_left, [], total, 2)
            self.refuses(NoNumber, time_left, [(0, 0), (1, 1)], total, 2)
        for thing in things_but(whole_within(1, MOST)):
            self.refuses(NoNumber, time_left, [(0, 0)], thing, 2)

    def test_bounds_of_many(self):
        for many in (2, 99):
            self.assertEqual(time_left([(0, 0), (1, 1)], 2, many), 1)
        for many in (1, 0, -1, 100, 1000):
            self.refuses(NoNumber, time_left, [(0, 0), (1, 1)], 2, many)
            self.refuses(NoNumber, time_left, [], 2, many)
        for thing in things_but(whole_within(2, 99)):
            self.refuses(NoNumber, time_left, [(0, 0), (1, 1)], 2, thing)

    def test_any_thing(self):
        for thing in any_things():
            if thing != []:
                self.refuses(NoNumber, time_left, thing, 20, 2)
            pair = isinstance(thing, tuple) and len(thing) == 2
            if not pair or not whole_within(0, MOST)(thing[0]) or not whole_within(0, 20)(thing[1]):
                self.refuses(NoNumber, time_left, [thing], 20, 2)

    def test_nothing_is_changed(self):
        samples = [(0, 0), (1, 2), (5, 3), (9, 7)]
        before = copy.deepcopy(samples)
        first = time_left(samples, 20, 3)
        self.assertEqual(samples, before)
        self.assertEqual(time_left(samples, 20, 3), first)


if __name__ == "__main__":
    unittest.main()
