"""Rows, their shapes, and the shapes that come of a shape."""

from shapeorders.errors import NoRow, NoShape

MOST_NUMBERS = 30


def check_row(row):
    if len(row) > MOST_NUMBERS or len(set(row)) != len(row):
        raise NoRow("a row is a list of 0 to 30 numbers, no two of them alike")


def check_shape(shape):
    if not is_shape(shape):
        raise NoShape("a shape has 0 to 30 numbers, each from 0 to below how many there are once")


def is_shape(some):
    return len(some) <= MOST_NUMBERS and sorted(some) == list(range(len(some)))


def many_less(row, number):
    return len([other for other in row if other < number])


def shape_of(row):
    check_row(row)
    return [many_less(row, number) for number in row]


def backward(shape):
    check_shape(shape)
    return list(reversed(shape))


def contrary(shape):
    check_shape(shape)
    return [len(shape) - 1 - number for number in shape]


def turned_over(shape):
    check_shape(shape)
    return [shape.index(place) for place in range(len(shape))]
