"""What the tests share: asking for a refusal, and rows, shapes and lists that are none to ask with."""

import itertools
import random
import time

from shapeorders import errors

KINDS = ["NoRow", "NoShape", "NoOrder", "NoSize", "TooLong", "HasOrder", "NoNumber"]
GREAT = 10 ** 60 - 1

# No shapes, by their numbers or by how many there are.
NOT_SHAPES = [[1], [-1], [GREAT], [0, 0], [1, 2], [0, 2], [-1, 0], [0, 1, 1], [1, 2, 3], [0, 1, 3], [-GREAT, 0, 1],
              [GREAT, 1, 0], [0, 1, 2, 4], [3, 0, 0, 1], list(range(1, 21)), list(range(20)) + [19],
              list(range(29)) + [30], list(range(29)) + [28]] + [list(range(size)) for size in range(31, 61)]
NOT_SIZES = [0, -1, -20, 21, 22, 30, 31, 1000, GREAT, -GREAT]


def copied(given):
    return [list(one) if isinstance(one, list) else one for one in given]


def assert_refuses(case, kind, call, *given):
    before = copied(given)
    with case.assertRaises(getattr(errors, kind), msg=given) as caught:
        call(*given)
    error = caught.exception
    case.assertIsInstance(error, errors.OrderError)
    case.assertIsInstance(error, ValueError)
    for other in KINDS:
        if other != kind:
            case.assertNotIsInstance(error, getattr(errors, other))
    case.assertEqual(copied(given), before)


def told(case, call, *given):
    """The answer, when what was handed in is as it was and asking again tells the same."""
    before = copied(given)
    answer = call(*given)
    case.assertEqual(copied(given), before)
    case.assertEqual(call(*given), answer)
    return answer


def assert_own_list(case, call, *given):
    """What is told may be changed, and so may what was handed in, and nothing else hangs on it."""
    before = copied(given)
    answer = call(*given)
    kept = list(answer)
    case.assertIs(type(answer), list)
    case.assertIsNot(call(*given), answer)
    lists = [one for one in given if isinstance(one, list)]
    for one in lists:
        case.assertIsNot(answer, one)
        one.append(-77)
    case.assertEqual(answer, kept)
    answer.append("changed")
    answer.reverse()
    for one in lists:
        one.pop()
    case.assertEqual(copied(given), before)
    case.assertEqual(call(*given), kept)


def great_row(size, seed):
    """A row of numbers of up to 60 figures, below nought too."""
    chance = random.Random(seed)
    row = []
    while len(row) < size:
        number = chance.randrange(-10 ** 60 + 1, 10 ** 60) // 10 ** chance.randrange(60)
        if number not in row:
            row.append(number)
    return row


def mixed_shape(size, seed):
    shape = list(range(size))
    random.Random(seed).shuffle(shape)
    return shape


def shapes_of_size(size):
    return [list(shape) for shape in itertools.permutations(range(size))]


def small_shapes():
    return [shape for size in range(7) for shape in shapes_of_size(size)]


def shapes_of_thirty():
    rising = list(range(30))
    return [rising, rising[::-1], rising[15:] + rising[:15], rising[1::2] + rising[::2]] + [
        mixed_shape(30, seed) for seed in range(20)]


def falls_by_hand(shape):
    return [place for place, (here, behind) in enumerate(itertools.pairwise(shape)) if here > behind]


def wrong_pairs_by_hand(shape):
    return len([pair for pair in itertools.combinations(shape, 2) if pair[0] > pair[1]])


def fall_sum_by_hand(shape):
    return sum(place + 1 for place in falls_by_hand(shape))


def assert_within_a_second(case, call, *given):
    start = time.perf_counter()
    call(*given)
    case.assertLess(time.perf_counter() - start, 1, (call, given))
