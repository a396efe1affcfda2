import copy
import itertools
import random
import re
import unittest

from screenlines.errors import NoOrder, NoText
from screenlines.orders import is_order
from screenlines.texts import order_text, orders_text, read_orders
from tests.things import Raises, any_things, changed_texts

LINE = re.compile(r"(say) ([ -~]{1,40})|(go) ([0-9]|1[01]) ([0-9]|[123][0-9]|40)|(wipe)")
WRITTEN = (
    (("say", "a b"), "say a b"),
    (("go", 0, 12), "go 0 12"),
    (("wipe",), "wipe"),
    (("say", " "), "say  "),
    (("say", "  "), "say   "),
    (("say", " a "), "say  a "),
    (("say", "~"), "say ~"),
    (("say", "wipe"), "say wipe"),
    (("say", "say"), "say say"),
    (("say", "go 0 0"), "say go 0 0"),
    (("say", "\\n"), "say \\n"),
    (("say", "x" * 40), "say " + "x" * 40),
    (("say", " " * 40), "say " + " " * 40),
    (("go", 0, 0), "go 0 0"),
    (("go", 9, 9), "go 9 9"),
    (("go", 10, 10), "go 10 10"),
    (("go", 11, 40), "go 11 40"),
)
NO_LINES = (
    "", " ", "say", "say ", "Say a", "SAY a", "says a", "saya", " say a", "sa a", "say\ta", "say a\tb", "say \t", "say \x7f",
    "say \x1f", "say \u00e9", "say a\r", "say a\x0b", "say a\u2028", "say a\x85", "say " + "x" * 41, "say " + " " * 41,
    "wipe ", " wipe", "Wipe", "WIPE", "wip", "wipes", "wipewipe", "wipe wipe", "wipe 0", "wipe\r", "wipe\t",
    "go", "go ", "go 0", "go 0 ", "go  0", "go 0  0", "go  0 0", " go 0 0", "go 0 0 ", "go 0 0 0", "Go 0 0", "go\t0 0", "go 0\t0",
    "go 00 0", "go 0 00", "go 01 0", "go 0 01", "go 0 000", "go 12 0", "go 0 41", "go 11 41", "go 12 40", "go 99 99",
    "go -1 0", "go 0 -1", "go -0 0", "go +1 0", "go 0 +1", "go 1_0 0", "go 0 1_0", "go 1. 0", "go 1.0 0", "go a 0", "go 0 a",
    "go x b", "go 0x1 0", "go 1e0 0", "go \u0661 0", "go 0 \u0661", "go \u00b2 0", "go 0 \u00b2", "go \uff11 0", "go 0 0\r",
    "go 0 0\n\n", "go " + "0" * 5000 + " 0", "go 0 " + "9" * 5000, "None", "('wipe',)", "# wipe", "say a\nb", "do", "bring",
)


def reference(text):
    """The orders that are written so, or None, by a pattern of the lines."""
    if text == "":
        return []
    if not text.endswith("\n"):
        return None
    found = [LINE.fullmatch(line) for line in text[:-1].split("\n")]
    if None in found:
        return None
    return [("say", match[2]) if match[1] else ("go", int(match[4]), int(match[5])) if match[3] else ("wipe",)
            for match in found]


def some_orders(chance, many):
    kinds = (
        lambda: ("say", "".join(chr(chance.randint(32, 126)) for sign in range(chance.choice((1, 2, 5, 39, 40))))),
        lambda: ("go", chance.randint(0, 11), chance.randint(0, 40)),
        lambda: ("wipe",),
    )
    return [chance.choice(kinds)() for number in range(many)]


class TestOrderText(unittest.TestCase, Raises):
    def test_known(self):
        for order, text in WRITTEN:
            self.assertEqual(order_text(order), text)

    def test_all_gos(self):
        for row, column in itertools.product(range(12), range(41)):
            self.assertEqual(order_text(("go", row, column)), "go " + str(row) + " " + str(column))

    def test_what_is_no_order(self):
        wrong = [("say", ""), ("say", "x" * 41), ("say", "a\nb"), ("say", "\x7f"), ("go", 12, 0), ("go", 0, 41), ("go", -1, 0),
                 ("go", 0, -1), ("go", True, 0), ("go", 0, False), ("go", 0), ("wipe", 0), ["wipe"], ["say", "a"], "wipe",
                 [("wipe",)], ("Wipe",)]
        for thing in wrong + any_things():
            self.assertFalse(is_order(thing))
            self.refuses(NoOrder, order_text, thing)


class TestOrdersText(unittest.TestCase, Raises):
    def test_each_ended_by_a_line_feed(self):
        self.assertEqual(orders_text([]), "")
        self.assertEqual(orders_text([("wipe",)]), "wipe\n")
        self.assertEqual(orders_text([("say", "a b"), ("go", 0, 12), ("wipe",)]), "say a b\ngo 0 12\nwipe\n")
        self.assertEqual(orders_text([("wipe",), ("wipe",)]), "wipe\nwipe\n")

    def test_as_order_text(self):
        orders = some_orders(random.Random(71), 300)
        self.assertEqual(orders_text(orders), "".join(order_text(order) + "\n" for order in orders))

    def test_what_are_no_orders(self):
        for thing in any_things():
            if thing != []:
                self.refuses(NoOrder, orders_text, thing)
            self.refuses(NoOrder, orders_text, [thing])
            self.refuses(NoOrder, orders_text, [("wipe",), thing])
            self.refuses(NoOrder, orders_text, [thing, ("wipe",)])
        for thing in ((("wipe",),), (), ("wipe",), "wipe\n", [["wipe"]], [("go", 12, 0)], [("say", "")]):
            self.refuses(NoOrder, orders_text, thing)

    def test_nothing_is_changed(self):
        orders = [("say", "a"), ("go", 1, 2), ("wipe",)]
        before = copy.deepcopy(orders)
        orders_text(orders)
        self.assertEqual(orders, before)


class TestReadOrders(unittest.TestCase, Raises):
    def reads_as_reference(self, text):
        wanted = reference(text)
        if wanted is None:
            self.refuses(NoText, read_orders, text)
        else:
            self.assertEqual(read_orders(text), wanted, repr(text))
            self.assertEqual(orders_text(wanted), text)

    def test_known(self):
        self.assertEqual(read_orders(""), [])
        self.assertEqual(read_orders("say a b\ngo 0 12\nwipe\n"), [("say", "a b"), ("go", 0, 12), ("wipe",)])
        for order, text in WRITTEN:
            self.assertEqual(read_orders(text + "\n"), [order])

    def test_kinds_of_what_is_read(self):
        told = read_orders("say 1\ngo 1 0\nwipe\n")
        self.assertIsInstance(told, list)
        self.assertEqual([[type(part) for part in order] for order in told], [[str, str], [str, int, int], [str]])
        self.assertTrue(all(isinstance(order, tuple) and is_order(order) for order in told))

    def test_all_gos(self):
        for row, column in itertools.product(range(-1, 14), range(-1, 43)):
            text = f"go {row} {column}\n"
            if 0 <= row <= 11 and 0 <= column <= 40:
                self.assertEqual(read_orders(text), [("go", row, column)])
            else:
                self.refuses(NoText, read_orders, text)

    def test_all_signs(self):
        for code in range(0, 400):
            for text in ("say " + chr(code) + "\n", "say a" + chr(code) + "b\n", "wipe" + chr(code) + "\n", chr(code), chr(code) + "wipe\n",
                         "go" + chr(code) + "0 0\n", "go 0" + chr(code) + "0\n", "go " + chr(code) + " 0\n", "go 0 " + chr(code) + "\n"):
                self.reads_as_reference(text)

    def test_lengths_of_says(self):
        for length in range(0, 45):
            self.reads_as_reference("say " + "x" * length + "\n")
            self.reads_as_reference("say" + " " * length + "\n")

    def test_no_such_lines(self):
        for line in NO_LINES:
            for text in (line + "\n", "wipe\n" + line + "\n", line + "\nwipe\n"):
                self.refuses(NoText, read_orders, text)

    def test_line_feeds(self):
        for text in ("\n", "\n\n", "wipe", "wipe\nwipe", "\nwipe\n", "wipe\n\n", "wipe\n\nwipe\n", "wipe\r\n", "wipe\r", "say a",
                     "say \n", "say\n", "go 0\n0\n", "wipe\n ", " \n", "say a\\n"):
            self.refuses(NoText, read_orders, text)

    def test_what_is_no_text(self):
        for thing in any_things() + [["wipe\n"], ("wipe\n",), [("wipe",)], ("wipe",), []]:
            if thing != "":
                self.refuses(NoText, read_orders, thing)

    def test_orders_read_back(self):
        chance = random.Random(72)
        for many in list(range(0, 30)) + [200]:
            orders = some_orders(chance, many)
            self.assertEqual(read_orders(orders_text(orders)), orders)

    def test_changed_texts(self):
        signs = " \nawgs0149~|\r\t\x7f\u00e9"
        for text in ("", "say a b\ngo 0 12\nwipe\n", "go 1 4\n", "say  \nsay " + "y" * 40 + "\n", "wipe\nwipe\ngo 10 40\n", "go 11 3\nsay 0 1\n"):
            for changed in changed_texts(text, signs):
                self.reads_as_reference(changed)

    def test_changed_texts_by_chance(self):
        chance = random.Random(73)
        for turn in range(40):
            text = orders_text(some_orders(chance, 4))
            for changed in chance.sample(changed_texts(text, " \n0~a"), 60):
                self.reads_as_reference(changed)

    def test_all_short_texts(self):
        for length in range(0, 6):
            for signs in itertools.product("go 1\n", repeat=length):
                self.reads_as_reference("".join(signs))
        for signs in itertools.product("014 \n", repeat=5):
            self.reads_as_reference("go " + "".join(signs) + "\n")

    def test_a_new_list_each_time(self):
        first = read_orders("wipe\ngo 0 0\n")
        first.clear()
        self.assertEqual(read_orders("wipe\ngo 0 0\n"), [("wipe",), ("go", 0, 0)])
        none = read_orders("")
        none.append(("wipe",))
        self.assertEqual(read_orders(""), [])


if __name__ == "__main__":
    unittest.main()
