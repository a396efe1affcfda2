import copy
import itertools
import random
import unittest

from screenlines.errors import NoScreen
from screenlines.least import least, least_cost
from screenlines.orders import all_done, cost, done, is_order
from screenlines.screens import are_rows, blank, unlike_spots
from tests.things import Raises, any_things


def all_orders(width, many, signs):
    """All orders of these signs that a screen of this size can have room for."""
    orders = [("go", row, column) for row in range(many) for column in range(width + 1)]
    orders.append(("wipe",))
    for length in range(1, width + 1):
        orders += [("say", "".join(text)) for text in itertools.product(signs, repeat=length)]
    return orders


class Graph:
    """All screens of a size and of some signs, and what leads from each to each other."""

    def __init__(self, width, many, signs):
        self.width = width
        rows = ["".join(text) for text in itertools.product(signs, repeat=width)]
        self.pictures = list(itertools.product(rows, repeat=many))
        self.places = [(row, column) for row in range(many) for column in range(width + 1)]
        self.orders = all_orders(width, many, signs)
        self.known = {}

    def steps(self, screen):
        if screen not in self.known:
            left = self.width - screen[2][1]
            fit = [order for order in self.orders if order[0] != "say" or len(order[1]) <= left]
            self.known[screen] = [(cost([order]), done(screen, order)) for order in fit]
        return self.known[screen]

    def screens(self):
        return [(self.width, rows, place) for rows in self.pictures for place in self.places]

    def least_costs(self, screen):
        """What it costs at least to show each picture, by trying all orders, the cheapest first."""
        best, buckets, spent = {screen: 0}, [[screen]], 0
        while spent < len(buckets):
            for current in buckets[spent]:
                if best[current] == spent:
                    for price, follower in self.steps(current):
                        if best.get(follower, spent + price + 1) > spent + price:
                            best[follower] = spent + price
                            while len(buckets) <= spent + price:
                                buckets.append([])
                            buckets[spent + price].append(follower)
            spent += 1
        pictures = {}
        for reached, price in best.items():
            pictures[reached[1]] = min(price, pictures.get(reached[1], price))
        return pictures


def stroke_cost(needed, begin, free):
    """The least that strokes cost that write all needed columns from begin on: 2 and its signs each, a free one first."""
    last = max(needed, default=begin - 1) + 1
    from_here = [0] * (last - begin + 1)
    for column in range(last - 1, begin - 1, -1):
        skipped = [] if column in needed else [from_here[column + 1 - begin]]
        written = [2 + end - column + from_here[end - begin] for end in range(column + 1, last + 1)]
        from_here[column - begin] = min(skipped + written)
    if free:
        return min(end - begin + from_here[end - begin] for end in range(begin, last + 1))
    return from_here[0]


def row_cost(old, new, place):
    """The least cost of a row, found by trying every column for the wipe; place is None in another row than the place's."""
    width = len(old)
    unlike = {column for column in range(width) if old[column] != new[column]}
    found = [stroke_cost(unlike, 0, False)]
    if place is not None:
        found.append(stroke_cost({c for c in unlike if c < place}, 0, False)
                     + stroke_cost({c for c in unlike if c >= place}, place, True))
    for wipe in range(width):
        signs = {column for column in range(wipe, width) if new[column] != " "}
        behind = stroke_cost(signs, wipe, True)
        left = {column for column in unlike if column < wipe}
        for begin in range(wipe + 1):
            outer = {column for column in left if column < begin}
            found.append(stroke_cost(outer, 0, False) + 2 + wipe - begin + 1 + behind)
        if place is not None and place <= wipe:
            outer = stroke_cost({c for c in left if c < place}, 0, False)
            found.append(outer + wipe - place + 1 + behind)
            for begin in range(place, wipe + 1):
                inner = {c for c in left if place <= c < begin}
                found.append(outer + stroke_cost(inner, place, True) + 2 + wipe - begin + 1 + behind)
    return min(found)


def reference_cost(screen, rows):
    width, own, place = screen
    wanted = [row.ljust(width) for row in rows] + [" " * width] * (len(own) - len(rows))
    return sum(row_cost(old, wanted[number], place[1] if number == place[0] else None)
               for number, old in enumerate(own))


class LeastCase(unittest.TestCase, Raises):
    def leads_to(self, screen, rows, price):
        """The orders told lead to the rows, at this price."""
        orders = least(screen, rows)
        self.assertIsInstance(orders, list)
        self.assertTrue(all(is_order(order) for order in orders), orders)
        self.assertEqual(unlike_spots(all_done(screen, orders), rows), [], (screen, rows, orders))
        self.assertEqual(cost(orders), price, (screen, rows, orders))
        self.assertEqual(least_cost(screen, rows), price, (screen, rows))


class TestKnown(LeastCase):
    def test_nothing_to_do(self):
        for screen in (blank(1, 1), blank(40, 12), (3, ("abc", " b "), (1, 3))):
            self.assertEqual(least(screen, list(screen[1])), [])
            self.assertEqual(least_cost(screen, list(screen[1])), 0)
        self.assertEqual(least(blank(40, 12), []), [])
        self.assertEqual(least((3, ("abc", " b ", "   "), (0, 0)), ["abc", " b"]), [])

    def test_said_where_the_place_is(self):
        self.assertEqual(least(blank(10, 2), ["hello"]), [("say", "hello")])
        self.assertEqual(least((5, ("abcde",), (0, 4)), ["abcdX"]), [("say", "X")])

    def test_gone_to_another_row(self):
        self.assertEqual(least(blank(10, 2), ["", "  hi"]), [("go", 1, 2), ("say", "hi")])

    def test_wiped(self):
        self.assertEqual(least((5, ("abcde",), (0, 0)), []), [("wipe",)])
        self.assertEqual(least((5, ("abcde",), (0, 2)), ["ab"]), [("wipe",)])
        self.leads_to((5, ("abcde",), (0, 5)), ["ab"], 3)
        self.leads_to((5, ("abcde",), (0, 5)), ["abcd"], 3)
        self.leads_to((5, ("abcde",), (0, 4)), ["abcd"], 1)

    def test_wiped_and_said(self):
        self.leads_to((10, ("abcdefghij",), (0, 0)), ["         x"], 4)
        self.leads_to((10, ("abcdefghij",), (0, 0)), ["x"], 2)
        self.leads_to((10, ("abcdefghij",), (0, 0)), ["x       y"], 5)

    def test_gaps_written_over_or_left_out(self):
        self.leads_to(blank(10, 1), ["a b"], 3)
        self.leads_to(blank(10, 1), ["a  b"], 4)
        self.leads_to(blank(10, 1), ["a   b"], 4)
        self.leads_to((8, ("-abcdef-",), (0, 0)), ["+abcdef+"], 4)

    def test_left_of_the_place(self):
        self.leads_to((8, ("abcdefgh",), (0, 4)), ["Xbcdefgh"], 3)
        self.leads_to((8, ("abcdefgh",), (0, 4)), ["XbcdEfgh"], 4)
        self.leads_to((8, ("abcdefgh",), (0, 1)), ["XYcdefgh"], 4)
        self.leads_to((8, ("abcdefgh",), (0, 4)), ["X"], 4)
        self.leads_to((8, ("abcdefgh",), (0, 4)), ["Xbcd"], 4)

    def test_all_rows_at_their_greatest(self):
        full = (40, ("x" * 40,) * 12, (5, 40))
        self.leads_to(full, [], 36)
        self.leads_to((40, full[1], (5, 0)), [], 34)
        self.leads_to(full, ["y" * 40] * 12, 42 * 12)
        self.leads_to(blank(40, 12), ["y" * 40] * 12, 42 * 12 - 2)


class TestAgainstAllOrders(LeastCase):
    def held(self, graph, screens, every=1):
        for screen in screens:
            prices = graph.least_costs(screen)
            for rows in graph.pictures[::every]:
                self.leads_to(screen, list(rows), prices[rows])

    def test_every_screen_of_the_smallest_sizes(self):
        for width, many, signs in ((1, 1, " ab"), (1, 2, " ab"), (1, 3, " a"), (2, 2, " a"), (3, 1, " ab"), (5, 1, " a")):
            graph = Graph(width, many, signs)
            self.held(graph, graph.screens())

    def test_some_screens_of_greater_sizes(self):
        chance = random.Random(31)
        for width, many, signs, some, every in ((4, 1, " ab", 30, 1), (3, 2, " a", 30, 1), (2, 3, " a", 30, 1),
                                                (2, 2, " ab", 20, 1), (8, 1, " a", 12, 1)):
            graph = Graph(width, many, signs)
            self.held(graph, chance.sample(graph.screens(), some), every)


class TestAgainstTheReference(LeastCase):
    def test_the_reference_itself(self):
        graph = Graph(5, 1, " a")
        for screen in graph.screens():
            for rows, price in graph.least_costs(screen).items():
                self.assertEqual(reference_cost(screen, list(rows)), price, (screen, rows))

    def test_screens_of_all_sizes(self):
        chance = random.Random(32)
        for turn in range(150):
            width, many = chance.choice((1, 2, 7, 12, 20, 39, 40)), chance.randint(1, 12)
            own = tuple(sparse(chance, width) for row in range(many))
            wanted = [altered(chance, row) for row in own]
            if chance.random() < 0.5:
                wanted = [row.rstrip(" ") for row in wanted][:chance.randint(0, many)]
            screen = (width, own, (chance.randrange(many), chance.randint(0, width)))
            self.leads_to(screen, wanted, reference_cost(screen, wanted))


def sparse(chance, width):
    blanks = chance.choice((0, 1, 3, 9))
    return "".join(chance.choice("ab" + " " * blanks) for column in range(width))


def altered(chance, row):
    """The row with some of its signs, or its end, changed."""
    rate = chance.choice((0, 0.1, 0.3, 0.8))
    signs = [chance.choice("ab ") if chance.random() < rate else sign for sign in row]
    if chance.random() < 0.5:
        end = chance.randint(0, len(row))
        tail = sparse(chance, len(row) - end) if chance.random() < 0.5 else " " * (len(row) - end)
        return "".join(signs)[:end] + tail
    return "".join(signs)


class TestRefusals(LeastCase):
    def test_what_are_no_rows_to_be_shown(self):
        screen = (3, ("abc", " b "), (1, 2))
        for thing in any_things() + [("abc",), ["abcd"], ["", "", ""], ["a\n"], [None], None, "abc"]:
            if not are_rows(screen, thing):
                self.refuses(NoScreen, least, screen, thing)
                self.refuses(NoScreen, least_cost, screen, thing)

    def test_what_is_no_screen(self):
        for screen in (None, [3, ("abc",), (0, 0)], (3, ("abc",), (0, 4)), (3, ("abc",), (1, 0)), (3, ("abc",), (0, True))):
            self.refuses(NoScreen, least, screen, ["abc"])
            self.refuses(NoScreen, least_cost, screen, ["abc"])


class TestLists(LeastCase):
    def test_a_new_list_each_time_and_nothing_changed(self):
        screen, rows = (5, ("abcde", "     "), (1, 0)), ["abXde", "y"]
        before = copy.deepcopy(rows)
        first = least(screen, rows)
        again = list(first)
        first.append(None)
        first[0] = None
        self.assertEqual(rows, before)
        self.assertEqual(least(screen, rows), again)
        empty = least(screen, list(screen[1]))
        empty.append(None)
        self.assertEqual(least(screen, list(screen[1])), [])


if __name__ == "__main__":
    unittest.main()
