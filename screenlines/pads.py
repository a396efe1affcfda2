"""Pads that are written on, and go back and forth; and screens written as texts.

A state of a pad is a tuple (step, screen, spent): which step led to it, the
screen as it is then, and all that is spent by then.
"""

from screenlines.errors import NoBack, NoText
from screenlines.least import least_cost
from screenlines.orders import done, order_cost
from screenlines.screens import check_screen, full_rows, is_screen
from screenlines.texts import lines_of, spot_or_none, spot_text
from screenlines.windows import scrolled

MADE = "made"


class Pad:
    def __init__(self, screen):
        check_screen(screen)
        # The last state is the one that the pad is in; the first one is not taken back.
        self.states = [(MADE, screen, 0)]
        self.taken_back = []

    def sheet(self):
        return self.states[-1][1]

    def spent(self):
        return self.states[-1][2]

    def step_to(self, step, screen, price):
        self.states.append((step, screen, self.spent() + price))
        self.taken_back = []

    def do(self, order):
        screen = done(self.sheet(), order)
        self.step_to("do", screen, order_cost(order))
        return self.spent()

    def scroll(self, by):
        self.step_to("scroll", scrolled(self.sheet(), by), 0)

    def bring(self, rows):
        screen = self.sheet()
        price = least_cost(screen, rows)
        self.step_to("bring", (screen[0], tuple(full_rows(screen, rows)), screen[2]), price)
        return price

    def back(self):
        if len(self.states) == 1:
            raise NoBack("there is no step that can be taken back")
        state = self.states.pop()
        self.taken_back.append(state)
        return state[0]

    def forth(self):
        if len(self.taken_back) == 0:
            raise NoBack("there is no step that can be done again")
        state = self.taken_back.pop()
        self.states.append(state)
        return state[0]

    def counts(self):
        return (len(self.states) - 1, len(self.taken_back))

    def twin(self):
        other = Pad(self.sheet())
        other.states = list(self.states)
        other.taken_back = list(self.taken_back)
        return other


def screen_text(screen):
    check_screen(screen)
    rows = [f"|{row}|\n" for row in screen[1]]
    return "".join(rows) + spot_text(screen[2][0], screen[2][1]) + "\n"


def screen_or_none(lines):
    if len(lines) < 2:
        return None
    rows = [line[1:-1] for line in lines[:-1]]
    return (len(rows[0]), tuple(rows), spot_or_none(lines[-1]))


def read_screen(text):
    screen = screen_or_none(lines_of(text))
    # Several texts may look like one screen, but it is written in one way alone.
    if not is_screen(screen) or screen_text(screen) != text:
        raise NoText("no screen is written so")
    return screen
