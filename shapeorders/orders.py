"""The places at which an order of one to four numbers stands in a row."""

from shapeorders.errors import NoOrder, TooLong
from shapeorders.shapes import check_row, check_shape

MOST_OF_ORDER = 4
MOST_WHERE_ALL = 12


def check_order(order):
    check_shape(order)
    if len(order) < 1 or len(order) > MOST_OF_ORDER:
        raise NoOrder("an order is a shape of 1 to 4 numbers")


def check_where_all(row, order):
    check_row(row)
    check_order(order)
    if len(row) > MOST_WHERE_ALL:
        raise TooLong("all places are told of rows of at most 12 numbers")


# The taken places agree with the order among themselves already,
# so only the pairs that the new place makes with them are asked.
def agrees(row, order, taken, place):
    number = order[len(taken)]
    for k in range(len(taken)):
        if (row[taken[k]] < row[place]) != (order[k] < number):
            return False
    return True


def next_places(row, order, taken):
    start = taken[-1] + 1 if len(taken) > 0 else 0
    return [place for place in range(start, len(row)) if agrees(row, order, taken, place)]


# Lesser places are taken first, so what is found comes in the order that is told.
def all_from(row, order, taken):
    if len(taken) == len(order):
        return [taken]
    found = []
    for place in next_places(row, order, taken):
        found.extend(all_from(row, order, taken + (place,)))
    return found


# Stops at the first one: a row may have 30 numbers here.
def first_from(row, order, taken):
    if len(taken) == len(order):
        return taken
    for place in next_places(row, order, taken):
        found = first_from(row, order, taken + (place,))
        if found is not None:
            return found
    return None


def places(row, order):
    check_where_all(row, order)
    return all_from(row, order, ())


def many(row, order):
    check_where_all(row, order)
    return len(all_from(row, order, ()))


def first(row, order):
    check_row(row)
    check_order(order)
    return first_from(row, order, ())
