"""Shapes without an order of three: how many, numbered, and led from one order to another.

A shape's least numbers are, at each place, the least one up to there. Among the shapes without the
order 0 1 2 no two have the same ones, nor among those without 0 2 1, and what least numbers there are
is the same for both. So a shape's number is that of its least numbers.
"""

from shapeorders.errors import HasOrder, NoNumber, NoOrder
from shapeorders.orders import first
from shapeorders.shapes import backward, check_shape, contrary
from shapeorders.sizes import check_size

RISING = (0, 1, 2)


def check_three(order):
    if len(order) != len(RISING):
        raise NoOrder("an order of three has three numbers")


# HasOrder is asked last: an order stands in a shape only where both are what they should be.
def check_without(shape, order):
    check_size(len(shape))
    if first(shape, order) is not None:
        raise HasOrder("the order stands in the shape")


# Whether an order stands in a shape stays as it is when both are made contrary or backward. So each
# order is brought to 0 1 2 or 0 2 1, a shape without it likewise, and back again by the same steps.
def brought(shape, order):
    is_contrary = order[1] == 0
    upright = contrary(order) if is_contrary else list(order)
    taken = contrary(shape) if is_contrary else list(shape)
    return backward(taken) if upright[0] > upright[2] else taken


def least_numbers(shape):
    return [min(shape[:place + 1]) for place in range(len(shape))]


# A least number that is still left stands where it is met. Elsewhere a greater one stands: without
# 0 1 2 these fall, so it is the greatest; without 0 2 1 none between may come later, so the next one.
def shape_with(least, order):
    is_falling = tuple(order) == RISING
    left = list(range(len(least)))
    shape = []
    for bound in least:
        number = bound
        if bound not in left:
            greater = [one for one in left if one > bound]
            number = max(greater) if is_falling else min(greater)
        left.remove(number)
        shape.append(number)
    return shape


# The entry at [left][last]: in how many ways least numbers go on for so many more places behind the
# last one. With some places left the next one is below how many, as greater ones must fill the rest.
def ways_on(size):
    ways = [[1] * size]
    for left in range(1, size + 1):
        ways.append([sum(ways[-1][:min(last + 1, left)]) for last in range(size)])
    return ways


def number_of_least(least):
    ways = ways_on(len(least))
    return sum([sum(ways[len(least) - 1 - place][:least[place]]) for place in range(len(least))])


def least_at(size, number):
    ways = ways_on(size)
    rest = number
    least = []
    for place in range(size):
        behind = ways[size - 1 - place]
        here = 0
        while rest >= behind[here]:
            rest -= behind[here]
            here += 1
        least.append(here)
    return least


def many_without(size):
    check_size(size)
    return ways_on(size)[size][size - 1]


def without_at(size, order, number):
    check_shape(order)
    check_three(order)
    check_size(size)
    if number < 0 or number >= many_without(size):
        raise NoNumber("no shape has this number")
    return brought(shape_with(least_at(size, number), brought(order, order)), order)


def number_of(shape, order):
    check_shape(shape)
    check_shape(order)
    check_three(order)
    check_without(shape, order)
    return number_of_least(least_numbers(brought(shape, order)))


def led(shape, order, other):
    check_shape(shape)
    check_shape(order)
    check_shape(other)
    check_three(order)
    check_three(other)
    return without_at(len(shape), other, number_of(shape, order))
