import copy
import itertools
import random
import re
import unittest

from screenlines.errors import LineError, NoBack, NoNumber, NoOrder, NoRoom, NoScreen, NoText
from screenlines.least import least, least_cost
from screenlines.orders import all_done, cost, done
from screenlines.pads import Pad, read_screen, screen_text
from screenlines.screens import are_rows, blank, is_screen, shown
from screenlines.windows import scrolled
from tests.things import Raises, any_things, changed_texts, some_screen, things_but, whole_within

SCREEN = (4, ("abcd", "efgh", "    "), (1, 2))
NO_SCREENS = (list(SCREEN), (4, SCREEN[1], (3, 0)), (4, SCREEN[1], (0, 5)), (True, ("a",), (0, 0)), SCREEN[:2], (41, ("x" * 41,), (0, 0)),
              (1, ("\n",), (0, 0)))
NO_ROWS = (["abcde"], ["", "", "", ""], ("abcd",), ["a\n"], [None], [0], [["a"]], "abcd", None, 0, True)


def state(pad):
    """All that can be seen of a pad without a change to it."""
    return pad.sheet(), pad.spent(), pad.counts()


def whole_state(pad):
    """All that can be seen of a pad, also all that it can take back and do again, seen on a twin of it."""
    ahead, behind = pad.twin(), pad.twin()
    seen = [state(pad)]
    while ahead.counts()[1]:
        seen.append((ahead.forth(), state(ahead)))
    while behind.counts()[0]:
        seen.append((behind.back(), state(behind)))
    return seen


def worked_pad():
    """A pad with three steps that can be taken back, and two that can be done again."""
    pad = Pad(SCREEN)
    pad.do(("say", "XY"))
    pad.scroll(1)
    pad.bring(["one", "two"])
    pad.do(("wipe",))
    pad.scroll(-1)
    pad.back()
    pad.back()
    return pad


class PadCase(unittest.TestCase, Raises):
    def refuses_unchanged(self, error, pad, function, *given):
        before = whole_state(pad)
        self.refuses(error, function, *given)
        self.assertEqual(whole_state(pad), before)


class TestPad(PadCase):
    def test_a_new_one(self):
        for screen in (SCREEN, blank(1, 1), blank(40, 12), some_screen(random.Random(1), 40, 12, "ab")):
            pad = Pad(screen)
            self.assertEqual(pad.sheet(), screen)
            self.assertEqual(pad.spent(), 0)
            self.assertEqual(pad.counts(), (0, 0))

    def test_what_is_no_screen(self):
        for thing in any_things() + list(NO_SCREENS):
            self.refuses(NoScreen, Pad, thing)

    def test_kinds(self):
        pad = worked_pad()
        self.assertTrue(is_screen(pad.sheet()))
        self.assertIs(type(pad.spent()), int)
        self.assertIs(type(pad.counts()), tuple)
        self.assertEqual([type(part) for part in pad.counts()], [int, int])
        self.assertEqual(pad.counts(), (3, 2))


class TestDo(PadCase):
    def test_told_is_all_that_is_spent_by_then(self):
        pad = Pad(SCREEN)
        self.assertEqual(pad.do(("say", "XY")), 2)
        self.assertEqual(pad.sheet(), (4, ("abcd", "efXY", "    "), (1, 4)))
        self.assertEqual(pad.do(("go", 0, 1)), 4)
        self.assertEqual(pad.sheet(), (4, ("abcd", "efXY", "    "), (0, 1)))
        self.assertEqual(pad.do(("wipe",)), 5)
        self.assertEqual(pad.sheet(), (4, ("a   ", "efXY", "    "), (0, 1)))
        self.assertEqual(pad.do(("say", "z")), 6)
        self.assertEqual(pad.spent(), 6)
        self.assertEqual(pad.counts(), (4, 0))

    def test_orders_that_change_nothing_are_steps_too(self):
        pad = Pad(blank(4, 2))
        for number, order in enumerate((("go", 0, 0), ("wipe",), ("go", 0, 0)), start=1):
            pad.do(order)
            self.assertEqual(pad.sheet(), blank(4, 2))
            self.assertEqual(pad.counts(), (number, 0))
        self.assertEqual(pad.spent(), 5)

    def test_the_greatest(self):
        pad = Pad(blank(40, 12))
        self.assertEqual(pad.do(("go", 11, 0)), 2)
        self.assertEqual(pad.do(("say", "x" * 40)), 42)
        self.assertEqual(pad.sheet()[2], (11, 40))

    def test_as_done_and_cost(self):
        chance = random.Random(101)
        pad, orders = Pad(SCREEN), []
        for turn in range(100):
            order = chance.choice((("go", chance.randint(0, 2), chance.randint(0, 3)), ("say", "s"), ("wipe",)))
            if order[0] == "say" and pad.sheet()[2][1] == 4:
                continue
            orders.append(order)
            self.assertEqual(pad.do(order), cost(orders))
            self.assertEqual(pad.sheet(), all_done(SCREEN, orders))

    def test_no_order(self):
        for pad in (Pad(SCREEN), worked_pad()):
            for thing in [("say", ""), ("say", "x" * 41), ("go", 12, 0), ("go", 0, 41), ("go", True, 0), ["wipe"], "wipe", [("wipe",)], None, [], 0]:
                self.refuses_unchanged(NoOrder, pad, pad.do, thing)
            for thing in any_things():
                self.refuses(NoOrder, pad.do, thing)

    def test_no_room(self):
        for pad in (Pad(SCREEN), worked_pad()):
            column = pad.sheet()[2][1]
            for order in (("say", "x" * (5 - column)), ("say", "x" * 40), ("go", 3, 0), ("go", 0, 5), ("go", 11, 40)):
                self.refuses_unchanged(NoRoom, pad, pad.do, order)


class TestScroll(PadCase):
    def test_nothing_is_spent_and_none_is_told(self):
        pad = Pad(SCREEN)
        pad.do(("go", 1, 2))
        for number, by in enumerate((1, -1, 0, 12, -12), start=2):
            wanted = scrolled(pad.sheet(), by)
            self.assertIsNone(pad.scroll(by))
            self.assertEqual(pad.sheet(), wanted)
            self.assertEqual(pad.spent(), 2)
            self.assertEqual(pad.counts(), (number, 0))

    def test_ordinary(self):
        pad = Pad(SCREEN)
        pad.scroll(1)
        self.assertEqual(pad.sheet(), (4, ("efgh", "    ", "    "), (1, 2)))
        pad.scroll(-2)
        self.assertEqual(pad.sheet(), (4, ("    ", "    ", "efgh"), (1, 2)))

    def test_no_number(self):
        for pad in (Pad(SCREEN), worked_pad()):
            for by in (13, -13, True, False, None, "1", [1], (1,)):
                self.refuses_unchanged(NoNumber, pad, pad.scroll, by)
            for thing in things_but(whole_within(-12, 12)):
                self.refuses(NoNumber, pad.scroll, thing)


class TestBring(PadCase):
    def test_ordinary(self):
        pad = Pad(SCREEN)
        self.assertEqual(pad.bring(["abcd", "efXY"]), 2)
        self.assertEqual(pad.sheet(), (4, ("abcd", "efXY", "    "), (1, 2)))
        self.assertEqual(pad.spent(), 2)
        self.assertEqual(pad.bring(["Zbcd", "efXY"]), 3)
        self.assertEqual(pad.sheet(), (4, ("Zbcd", "efXY", "    "), (1, 2)))
        self.assertEqual(pad.spent(), 5)
        self.assertEqual(pad.counts(), (2, 0))

    def test_rows_that_are_shown_already_are_a_step_too(self):
        pad = Pad(SCREEN)
        self.assertEqual(pad.bring(["abcd", "efgh"]), 0)
        self.assertEqual(state(pad), (SCREEN, 0, (1, 0)))
        self.assertEqual(pad.back(), "bring")

    def test_it_spends_what_least_cost_tells_and_leaves_the_place(self):
        chance = random.Random(102)
        for turn in range(60):
            screen = some_screen(chance, chance.randint(1, 40), chance.randint(1, 12), "ab ")
            pad = Pad(screen)
            all_spent = 0
            for step in range(4):
                before = pad.sheet()
                rows = ["".join(chance.choice("ab ") for column in range(chance.randint(0, screen[0])))
                        for row in range(chance.randint(0, len(screen[1])))]
                price = least_cost(before, rows)
                all_spent += price
                self.assertEqual(pad.bring(rows), price)
                self.assertEqual(pad.spent(), all_spent)
                self.assertEqual(pad.sheet()[2], screen[2])
                self.assertTrue(is_screen(pad.sheet()))
                self.assertEqual(pad.sheet()[1], all_done(before, least(before, rows))[1])
                wanted = [row.rstrip(" ") for row in rows] + [""] * (len(screen[1]) - len(rows))
                self.assertEqual(shown(pad.sheet()), wanted)

    def test_what_are_no_rows_to_be_shown(self):
        for pad in (Pad(SCREEN), worked_pad()):
            for rows in NO_ROWS:
                self.refuses_unchanged(NoScreen, pad, pad.bring, rows)
            for thing in any_things():
                if not are_rows(SCREEN, thing):
                    self.refuses(NoScreen, pad.bring, thing)

    def test_rows_are_neither_changed_nor_kept(self):
        pad, rows = Pad(SCREEN), ["x", ""]
        before = copy.deepcopy(rows)
        pad.bring(rows)
        self.assertEqual(rows, before)
        seen = whole_state(pad)
        rows[0] = "other"
        rows.clear()
        self.assertEqual(whole_state(pad), seen)


class TestBackAndForth(PadCase):
    def test_which_step_it_was(self):
        pad = Pad(SCREEN)
        pad.do(("say", "XY"))
        pad.scroll(1)
        pad.bring(["one"])
        self.assertEqual([pad.back() for step in range(3)], ["bring", "scroll", "do"])
        self.assertEqual([pad.forth() for step in range(3)], ["do", "scroll", "bring"])

    def test_also_what_it_spent(self):
        pad = Pad(SCREEN)
        pad.do(("say", "XY"))
        pad.do(("go", 0, 0))
        pad.bring(["", "", "ab"])
        behind = state(pad)
        pad.back()
        self.assertEqual(pad.spent(), 4)
        self.assertEqual(pad.sheet(), (4, ("abcd", "efXY", "    "), (0, 0)))
        pad.back()
        self.assertEqual(pad.spent(), 2)
        self.assertEqual(pad.sheet(), (4, ("abcd", "efXY", "    "), (1, 4)))
        pad.back()
        self.assertEqual(state(pad), (SCREEN, 0, (0, 3)))
        for step in range(3):
            pad.forth()
        self.assertEqual(state(pad), behind)
        self.assertEqual(pad.do(("wipe",)), behind[1] + 1)

    def test_none_to_take_back(self):
        pad = Pad(SCREEN)
        self.refuses_unchanged(NoBack, pad, pad.back)
        pad.do(("wipe",))
        pad.back()
        self.refuses_unchanged(NoBack, pad, pad.back)
        self.assertEqual(pad.forth(), "do")

    def test_none_to_do_again(self):
        pad = Pad(SCREEN)
        self.refuses_unchanged(NoBack, pad, pad.forth)
        pad.do(("wipe",))
        self.refuses_unchanged(NoBack, pad, pad.forth)
        pad.back()
        pad.forth()
        self.refuses_unchanged(NoBack, pad, pad.forth)
        self.assertEqual(pad.back(), "do")

    def test_forth_is_refused_behind_another_step(self):
        for name, given in (("do", ("wipe",)), ("do", ("go", 0, 0)), ("scroll", 1), ("scroll", 0), ("bring", []), ("bring", ["abcd", "efgh"])):
            pad = Pad(SCREEN)
            pad.do(("say", "X"))
            pad.scroll(1)
            pad.back()
            pad.back()
            self.assertEqual(pad.counts(), (0, 2))
            getattr(pad, name)(given)
            self.assertEqual(pad.counts(), (1, 0))
            self.refuses_unchanged(NoBack, pad, pad.forth)
            self.assertEqual(pad.back(), name)
            self.assertEqual(pad.forth(), name)
            self.refuses_unchanged(NoBack, pad, pad.forth)

    def test_what_is_refused_is_no_step(self):
        pad = worked_pad()
        for error, function, given in ((NoOrder, pad.do, None), (NoRoom, pad.do, ("go", 11, 40)), (NoNumber, pad.scroll, 13),
                                       (NoScreen, pad.bring, None)):
            self.refuses_unchanged(error, pad, function, given)
        self.assertEqual(pad.counts(), (3, 2))
        self.assertEqual([pad.forth(), pad.forth()], ["do", "scroll"])

    def test_steps_that_are_alike(self):
        pad = Pad(SCREEN)
        for step in range(5):
            pad.scroll(0)
        self.assertEqual(pad.counts(), (5, 0))
        self.assertEqual([pad.back() for step in range(5)], ["scroll"] * 5)
        self.assertEqual(state(pad), (SCREEN, 0, (0, 5)))

    def test_many_steps(self):
        pad = Pad(blank(40, 12))
        seen = [state(pad)]
        for step in range(2000):
            pad.do(("go", step % 12, step % 41))
            seen.append(state(pad))
        for step in range(2000, 0, -1):
            self.assertEqual(pad.back(), "do")
            self.assertEqual(pad.sheet(), seen[step - 1][0])
            self.assertEqual(pad.spent(), 2 * (step - 1))
        self.assertEqual(pad.counts(), (0, 2000))


class TestTwin(PadCase):
    def test_as_this_one(self):
        for pad in (Pad(SCREEN), worked_pad()):
            twin = pad.twin()
            self.assertIsInstance(twin, Pad)
            self.assertIsNot(twin, pad)
            self.assertEqual(whole_state(twin), whole_state(pad))

    def test_nothing_is_changed_by_it(self):
        pad = worked_pad()
        before = state(pad)
        pad.twin()
        self.assertEqual(state(pad), before)

    def test_each_goes_by_itself(self):
        deeds = (lambda pad: pad.do(("wipe",)), lambda pad: pad.scroll(2), lambda pad: pad.bring(["new"]), lambda pad: pad.back(),
                 lambda pad: pad.forth(), lambda pad: [pad.back() for step in range(3)], lambda pad: [pad.forth(), pad.forth()])
        for deed in deeds:
            pad = worked_pad()
            twin = pad.twin()
            before = whole_state(pad)
            deed(twin)
            self.assertEqual(whole_state(pad), before)
            self.assertNotEqual(whole_state(twin), before)
            twin = pad.twin()
            deed(pad)
            self.assertEqual(whole_state(twin), before)
            self.assertNotEqual(whole_state(pad), before)

    def test_a_twin_of_a_twin(self):
        pad = worked_pad()
        before = whole_state(pad)
        twin = pad.twin()
        third = twin.twin()
        third.scroll(1)
        twin.back()
        self.assertEqual(whole_state(pad), before)
        self.assertEqual(third.counts(), (4, 0))
        self.assertEqual(twin.counts(), (2, 3))

    def test_two_pads_of_one_screen(self):
        one, other = Pad(SCREEN), Pad(SCREEN)
        one.do(("wipe",))
        self.assertEqual(state(other), (SCREEN, 0, (0, 0)))


class Plain:
    """What a pad should hold, written down as plainly as can be: all states that were, and which one is due."""

    def __init__(self, screen):
        self.seen, self.words, self.at = [(screen, 0)], [], 0

    def deed(self, chance):
        """A deed by chance: what to call, with what, and what it tells, or the class of its refusal."""
        kind = chance.choice(("do", "do", "do", "scroll", "bring", "back", "back", "forth", "forth"))
        return (kind,) + getattr(self, "deed_" + kind)(chance)

    def step(self, word, screen, spent):
        self.seen = self.seen[:self.at + 1] + [(screen, spent)]
        self.words = self.words[:self.at] + [word]
        self.at += 1

    def deed_do(self, chance):
        screen, spent = self.seen[self.at]
        order = chance.choice((("go", chance.randint(0, 3), chance.randint(0, 6)), ("say", "x" * chance.randint(1, 3)), ("wipe",), ("say",)))
        try:
            self.step("do", done(screen, order), spent + cost([order]))
        except LineError as refusal:
            return (order,), type(refusal)
        return (order,), self.seen[self.at][1]

    def deed_scroll(self, chance):
        screen, spent = self.seen[self.at]
        by = chance.choice((-13, -1, 0, 1, 2))
        if by == -13:
            return (by,), NoNumber
        self.step("scroll", scrolled(screen, by), spent)
        return (by,), None

    def deed_bring(self, chance):
        screen, spent = self.seen[self.at]
        rows = ["".join(chance.choice("ab ") for column in range(chance.randint(0, 6))) for row in range(chance.randint(0, 3))]
        if any(len(row) > 5 for row in rows):
            return (rows,), NoScreen
        price = least_cost(screen, rows)
        full = tuple(row.ljust(5) for row in rows) + ("     ",) * (3 - len(rows))
        self.step("bring", (5, full, screen[2]), spent + price)
        return (rows,), price

    def deed_back(self, chance):
        if self.at == 0:
            return (), NoBack
        self.at -= 1
        return (), self.words[self.at]

    def deed_forth(self, chance):
        if self.at == len(self.words):
            return (), NoBack
        self.at += 1
        return (), self.words[self.at - 1]

    def state(self):
        return self.seen[self.at] + ((self.at, len(self.words) - self.at),)


class TestDeeds(PadCase):
    def test_pads_go_back_and_forth_through_all_that_was(self):
        chance = random.Random(103)
        for turn in range(20):
            screen = some_screen(chance, 5, 3, "ab ")
            pad, model = Pad(screen), Plain(screen)
            for step in range(80):
                name, given, told = model.deed(chance)
                if isinstance(told, type) and issubclass(told, LineError):
                    self.refuses_unchanged(told, pad, getattr(pad, name), *given)
                else:
                    self.assertEqual(getattr(pad, name)(*given), told)
                self.assertEqual(state(pad), model.state())
                if chance.random() < 0.1:
                    pad = pad.twin()
            while pad.counts()[0]:
                self.assertEqual(pad.back(), model.deed_back(None)[1])
                self.assertEqual(state(pad), model.state())
            self.assertEqual(pad.sheet(), screen)
            while pad.counts()[1]:
                self.assertEqual(pad.forth(), model.deed_forth(None)[1])
                self.assertEqual(state(pad), model.state())


SCREEN_LINES = re.compile(r"((?:\|[ -~]{1,40}\|\n){1,12})(0|[1-9][0-9]*) (0|[1-9][0-9]*)\n")


def screen_reference(text):
    """The screen that is written so, or None, by a pattern of the lines."""
    match = SCREEN_LINES.fullmatch(text)
    if match is None or len(match[2]) > 3 or len(match[3]) > 3:
        return None
    rows = tuple(line[1:-1] for line in match[1][:-1].split("\n"))
    row, column = int(match[2]), int(match[3])
    if len({len(text) for text in rows}) != 1 or row >= len(rows) or column > len(rows[0]):
        return None
    return len(rows[0]), rows, (row, column)


class TestScreenText(unittest.TestCase, Raises):
    def test_known(self):
        self.assertEqual(screen_text(SCREEN), "|abcd|\n|efgh|\n|    |\n1 2\n")
        self.assertEqual(screen_text(blank(1, 1)), "| |\n0 0\n")
        self.assertEqual(screen_text((2, ("||", "\\n"), (0, 2))), "||||\n|\\n|\n0 2\n")
        self.assertEqual(screen_text((40, ("~" * 40,) * 12, (11, 40))), ("|" + "~" * 40 + "|\n") * 12 + "11 40\n")

    def test_places(self):
        for row, column in itertools.product(range(12), range(41)):
            screen = blank(40, 12)[:2] + ((row, column),)
            self.assertEqual(screen_text(screen), ("|" + " " * 40 + "|\n") * 12 + str(row) + " " + str(column) + "\n")

    def test_what_is_no_screen(self):
        for thing in any_things() + list(NO_SCREENS) + ["| |\n0 0\n"]:
            self.refuses(NoScreen, screen_text, thing)


class TestReadScreen(unittest.TestCase, Raises):
    def reads_as_reference(self, text):
        wanted = screen_reference(text)
        if wanted is None:
            self.refuses(NoText, read_screen, text)
        else:
            self.assertEqual(read_screen(text), wanted, repr(text))
            self.assertEqual(screen_text(wanted), text)

    def test_known(self):
        self.assertEqual(read_screen("|abcd|\n|efgh|\n|    |\n1 2\n"), SCREEN)
        self.assertEqual(read_screen("| |\n0 0\n"), blank(1, 1))
        self.assertEqual(read_screen("|||\n0 1\n"), (1, ("|",), (0, 1)))
        self.assertEqual(read_screen("||||\n||||\n1 2\n"), (2, ("||", "||"), (1, 2)))
        self.assertEqual(read_screen("|0 0|\n|0 0|\n0 0\n"), (3, ("0 0", "0 0"), (0, 0)))

    def test_all_sizes_read_back(self):
        chance = random.Random(111)
        signs = "".join(chr(code) for code in range(32, 127))
        for width, many in itertools.product(range(1, 41), range(1, 13)):
            screen = some_screen(chance, width, many, signs)
            self.assertEqual(read_screen(screen_text(screen)), screen)

    def test_all_places(self):
        for width, many in ((1, 1), (4, 3), (9, 9), (10, 10), (40, 12)):
            rows = ("|" + "x" * width + "|\n") * many
            for row, column in itertools.product(range(-1, 14), range(-1, 43)):
                text = f"{rows}{row} {column}\n"
                if 0 <= row < many and 0 <= column <= width:
                    self.assertEqual(read_screen(text), (width, ("x" * width,) * many, (row, column)))
                else:
                    self.refuses(NoText, read_screen, text)

    def test_sizes_beyond(self):
        for width, many in ((0, 1), (41, 1), (42, 12), (0, 12), (1, 0), (1, 13), (40, 13), (41, 13)):
            self.refuses(NoText, read_screen, ("|" + "x" * width + "|\n") * many + "0 0\n")

    def test_other_places(self):
        for place in ("", " ", "0", "0 ", " 0", "0  0", " 0 0", "0 0 ", "0 0 0", "00 0", "0 00", "01 0", "0 01", "-0 0", "+0 0", "0 +0", "0,0",
                      "0\t0", "0_0 0", "a 0", "0 a", "a b", "\u0660 0", "0 \u0661", "\u00b2 0", "(0, 0)", "|0 0|", "0 0\r", "0 0\n", "0 0\n0 0",
                      "0" * 5000 + " 0", "0 " + "9" * 5000, "\n0 0"):
            self.refuses(NoText, read_screen, "|ab|\n|cd|\n" + place + "\n")

    def test_other_rows(self):
        for rows in ("", "\n", "ab\n", "|ab\n", "ab|\n", "|ab|", "|ab| \n", " |ab|\n", "|ab|\r\n", "|ab|\n\n", "\n|ab|\n",
                     "|ab|\n|abc|\n", "|abc|\n|ab|\n", "|a\tb|\n", "|\x7f|\n", "|\x1f|\n", "|\u00e9|\n", "|\u2028|\n", "|\x85|\n",
                     "|\r|\n", "||\n", "|\n", "| |\n||\n", "|a|\n|\n", "0 0\n", "|ab|\n0 0\n", "xabx\n", "[ab]\n", "|ab|\n ab \n",
                     "|a|\nb\n"):
            self.refuses(NoText, read_screen, rows + "0 0\n")

    def test_line_feeds(self):
        for text in ("", "\n", "\n\n", "|a|\n0 0", "|a|0 0\n", "|a|", "|a|\n", "0 0\n", "0 0", "|a|\n0 0\n\n", "|a|\n0 0\n ", "\n|a|\n0 0\n",
                     "|a|\n\n0 0\n", "|a|\n0 0\n|a|\n0 0\n"):
            self.refuses(NoText, read_screen, text)

    def test_any_thing(self):
        for thing in any_things() + [SCREEN, ["| |\n0 0\n"], ("| |\n0 0\n",), ["| |", "0 0"]]:
            self.refuses(NoText, read_screen, thing)

    def test_changed_texts(self):
        for text in ("| |\n0 0\n", "|ab|\n|cd|\n1 2\n", "||||\n||||\n0 1\n", "|0 1|\n|1 0|\n0 1\n", "|  |\n|  |\n|  |\n2 0\n",
                     "|a|\n" * 11 + "10 1\n", "|a|\n" * 12 + "1 0\n", "|" + "x" * 39 + "|\n0 3\n", "|" + "x" * 40 + "|\n0 40\n"):
            self.reads_as_reference(text)
            for changed in changed_texts(text, " \n|a0129~\r\t\x7f\u00e9"):
                self.reads_as_reference(changed)

    def test_changed_texts_by_chance(self):
        chance = random.Random(112)
        for turn in range(60):
            text = screen_text(some_screen(chance, chance.randint(1, 6), chance.randint(1, 12), "|0 a"))
            for changed in chance.sample(changed_texts(text, " \n|01"), 60):
                self.reads_as_reference(changed)

    def test_all_short_texts(self):
        for length in range(0, 9):
            for signs in itertools.product("|\n0 ", repeat=length):
                text = "".join(signs)
                if length < 7 or text.endswith("0 0\n"):
                    self.reads_as_reference(text)

    def test_what_a_pad_holds_reads_back(self):
        pad = worked_pad()
        self.assertEqual(read_screen(screen_text(pad.sheet())), pad.sheet())


if __name__ == "__main__":
    unittest.main()
