"""What the tests share: asking for a refusal, and rows to ask with."""

import random

from shapeorders import errors

KINDS = ["NoRow", "NoShape", "NoOrder", "NoSize", "TooLong", "HasOrder", "NoNumber"]


def assert_refuses(case, kind, call, *given):
    before = [list(one) for one in given]
    with case.assertRaises(getattr(errors, kind), msg=given) as caught:
        call(*given)
    error = caught.exception
    case.assertIsInstance(error, errors.OrderError)
    case.assertIsInstance(error, ValueError)
    for other in KINDS:
        if other != kind:
            case.assertNotIsInstance(error, getattr(errors, other))
    case.assertEqual([list(one) for one in given], before)


def told(case, call, *given):
    """The answer, when what was handed in is as it was and asking again tells the same."""
    before = [list(one) for one in given]
    answer = call(*given)
    case.assertEqual([list(one) for one in given], before)
    case.assertEqual(call(*given), answer)
    return answer


def assert_own_list(case, call, *given):
    """What is told may be changed, and so may what was handed in, and nothing else hangs on it."""
    before = [list(one) for one in given]
    answer = call(*given)
    kept = list(answer)
    case.assertIs(type(answer), list)
    case.assertIsNot(call(*given), answer)
    for one in given:
        case.assertIsNot(answer, one)
        one.append(-77)
    case.assertEqual(answer, kept)
    answer.append("changed")
    answer.reverse()
    for one in given:
        one.pop()
    case.assertEqual([list(one) for one in given], before)
    case.assertEqual(call(*given), kept)


def great_row(size, seed):
    """A row of numbers of up to 60 figures, below nought too."""
    chance = random.Random(seed)
    row = []
    while len(row) < size:
        number = chance.randrange(-10 ** 60 + 1, 10 ** 60) // 10 ** chance.randrange(60)
        if number not in row:
            row.append(number)
    return row


def mixed_shape(size, seed):
    shape = list(range(size))
    random.Random(seed).shuffle(shape)
    return shape
