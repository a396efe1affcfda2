"""The orders of the least cost that make a screen show other rows.

No order but a go leads to another row, and a go costs the same from anywhere.
So each row is written over by itself, and what that costs is added up; only
the row of the place can be begun without a go.

Within a row it is enough to sweep from left to right, with one wipe at most:
of several wipes the leftmost does all that the others do, and what is written
right of it ahead of it is lost. A plan is a tuple (cost, orders). At each
column the cheapest plan is kept for each state, a tuple (here, wiped): whether
the place is at this column, and whether the row is wiped from some column on.
All signs to the left of the column are as they should be by then.
"""

from screenlines.orders import cost, order_cost, shortened
from screenlines.screens import check_rows, full_rows

ELSEWHERE = (False, False)
HERE = (True, False)
ELSEWHERE_WIPED = (False, True)
HERE_WIPED = (True, True)
NO_ORDERS = (0, ())


def plan_cost(plan):
    return plan[0]


def offer(plans, state, plan):
    if state not in plans or plan_cost(plan) < plan_cost(plans[state]):
        plans[state] = plan


def offer_with_order(plans, state, plan, order):
    offer(plans, state, (plan[0] + order_cost(order), plan[1] + (order,)))


def with_moves(plans, number, column):
    more = dict(plans)
    if ELSEWHERE in more:
        offer_with_order(more, HERE, more[ELSEWHERE], ("go", number, column))
    if HERE in more:
        offer_with_order(more, HERE_WIPED, more[HERE], ("wipe",))
    if ELSEWHERE_WIPED in more:
        offer_with_order(more, HERE_WIPED, more[ELSEWHERE_WIPED], ("go", number, column))
    return more


def stepped_over(plans, old, new):
    further = {}
    for state, plan in plans.items():
        wiped = state[1]
        if state[0]:
            offer_with_order(further, (True, wiped), plan, ("say", new))
        # A sign that is right already may be left alone, but the place stays behind then.
        if (" " if wiped else old) == new:
            offer(further, (False, wiped), plan)
    return further


def swept(plans, number, old, new, begin):
    current = plans
    for column in range(begin, len(old)):
        current = stepped_over(with_moves(current, number, column), old[column], new[column])
    return current


def cheapest(plans, states):
    return min([plans[state] for state in states if state in plans], key=plan_cost)


def plan_from_elsewhere(number, old, new):
    plans = swept({ELSEWHERE: NO_ORDERS}, number, old, new, 0)
    return cheapest(plans, (ELSEWHERE, HERE, ELSEWHERE_WIPED, HERE_WIPED))


def plan_from_place(number, old, new, place):
    plans = swept({HERE: NO_ORDERS}, number, old, new, place)
    right = cheapest(plans, (ELSEWHERE, HERE, ELSEWHERE_WIPED, HERE_WIPED))
    plans = swept({ELSEWHERE: NO_ORDERS}, number, old[:place], new[:place], 0)
    # What lies left of the place comes last, and a wipe there would undo what was written ahead of it.
    left = cheapest(plans, (ELSEWHERE, HERE))
    return (right[0] + left[0], right[1] + left[1])


def row_of_place_plan(number, old, new, place):
    plans = [plan_from_place(number, old, new, place), plan_from_elsewhere(number, old, new)]
    return min(plans, key=plan_cost)


def least(screen, rows):
    check_rows(screen, rows)
    wanted = full_rows(screen, rows)
    own = screen[2][0]
    # The row of the place comes first: any go to another row would lose the place.
    orders = list(row_of_place_plan(own, screen[1][own], wanted[own], screen[2][1])[1])
    for number, row in enumerate(screen[1]):
        if number != own:
            orders.extend(plan_from_elsewhere(number, row, wanted[number])[1])
    # The plans say sign by sign.
    return shortened(orders)


def least_cost(screen, rows):
    return cost(least(screen, rows))
