"""Falls and wrong pairs of a shape, and how many shapes of a size have so many of them."""

from shapeorders.errors import NoNumber
from shapeorders.shapes import check_shape
from shapeorders.sizes import check_size


def check_not_below_nought(number):
    if number < 0:
        raise NoNumber("there are no shapes of below 0 falls or wrong pairs")


def fall_places(shape):
    return [place for place in range(len(shape) - 1) if shape[place] > shape[place + 1]]


def less_behind(shape, place):
    return len([number for number in shape[place + 1:] if number < shape[place]])


def falls(shape):
    check_shape(shape)
    return fall_places(shape)


def wrong_pairs(shape):
    check_shape(shape)
    return sum([less_behind(shape, place) for place in range(len(shape))])


def fall_sum(shape):
    check_shape(shape)
    return sum([place + 1 for place in fall_places(shape)])


# Beyond the list there are none, however far.
def entry(numbers, place):
    return numbers[place] if 0 <= place < len(numbers) else 0


# A new greatest number leaves the falls as many at a fall or at the end; elsewhere it makes one more.
def all_by_falls(size):
    counted = [1]
    for grown in range(2, size + 1):
        counted = [(k + 1) * entry(counted, k) + (grown - k) * entry(counted, k - 1) for k in range(grown)]
    return counted


# A new greatest number makes a wrong pair with each number behind it: from none to all of the old ones.
def all_by_wrong_pairs(size):
    counted = [1]
    for grown in range(2, size + 1):
        length = len(counted) + grown - 1
        counted = [sum(counted[max(0, pairs - grown + 1):pairs + 1]) for pairs in range(length)]
    return counted


def many_falls(size, falls):
    check_size(size)
    check_not_below_nought(falls)
    return entry(all_by_falls(size), falls)


def many_wrong(size, pairs):
    check_size(size)
    check_not_below_nought(pairs)
    return entry(all_by_wrong_pairs(size), pairs)
