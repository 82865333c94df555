"""Shapes exchanged, so that the fall sum becomes the number of wrong pairs, and exchanged back."""

from shapeorders.shapes import check_shape


# The row's last number is itself one of those behind which it is parted, so no number is left over.
def parted(row, number):
    is_less = row[-1] < number
    parts = []
    part = []
    for one in row:
        part.append(one)
        if (one < number) == is_less:
            parts.append(part)
            part = []
    return parts


def last_put_first(row, number):
    if len(row) == 0:
        return []
    moved = []
    for part in parted(row, number):
        moved.append(part[-1])
        moved.extend(part[:-1])
    return moved


# The row's first number came from the end of its part, as the old last one did, so both are less than
# the number or neither is. Read from the end, the same parting undoes what was done.
def first_put_last(row, number):
    return list(reversed(last_put_first(list(reversed(row)), number)))


def exchanged(shape):
    check_shape(shape)
    row = []
    for number in shape:
        row = last_put_first(row, number)
        row.append(number)
    return row


def exchanged_back(shape):
    check_shape(shape)
    row = list(shape)
    taken = []
    while len(row) > 0:
        number = row.pop()
        taken.append(number)
        row = first_put_last(row, number)
    return list(reversed(taken))
