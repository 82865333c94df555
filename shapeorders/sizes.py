"""The sizes up to which shapes are numbered, led and told how many there are."""

from shapeorders.errors import NoSize

GREATEST_SIZE = 20


def check_size(size):
    if size < 1 or size > GREATEST_SIZE:
        raise NoSize("a size is a number from 1 to 20")
