import inspect
import itertools
import unittest

from helper import assert_own_list, assert_refuses, great_row, told
from shapeorders import orders
from shapeorders.orders import first, many, places

ALL = [places, many]
EACH = [places, many, first]
ORDERS = [list(order) for size in range(1, 5) for order in itertools.permutations(range(size))]

TWO_ALIKE = [[1, 1], [0, 5, 0], [10 ** 59, 10 ** 59], list(range(12)) + [3], list(range(29)) + [0]]
NO_SHAPES = [[1], [-1], [0, 0], [0, 2], [1, 2], [0, 1, 1], [3, 2, 1], [0, 1, 2, 4], [10 ** 59, 0], [0, 0, 1, 2, 3]]
NO_SHAPES_BY_LENGTH = [list(range(size)) for size in range(31, 61)]
NO_ORDERS = [[]] + [list(range(size)) for size in range(5, 31)]


def shape_by_sorting(numbers):
    rising = sorted(numbers)
    return [rising.index(number) for number in numbers]


def places_by_trying(row, order):
    tuples = itertools.combinations(range(len(row)), len(order))
    return [one for one in tuples if shape_by_sorting([row[place] for place in one]) == order]


class Interface(unittest.TestCase):
    def test_names_and_arguments(self):
        for name in ["places", "many", "first"]:
            self.assertEqual(list(inspect.signature(getattr(orders, name)).parameters), ["row", "order"])


class Standing(unittest.TestCase):
    def agree(self, row, order):
        asked = places_by_trying(row, order)
        self.assertEqual(places(row, order), asked)
        self.assertEqual(many(row, order), len(asked))
        self.assertEqual(first(row, order), asked[0] if asked else None)

    def test_written_out(self):
        row = [5, -3, 9, 0]
        self.assertEqual(told(self, places, row, [0]), [(0,), (1,), (2,), (3,)])
        self.assertEqual(told(self, places, row, [0, 1]), [(0, 2), (1, 2), (1, 3)])
        self.assertEqual(told(self, places, row, [1, 0]), [(0, 1), (0, 3), (2, 3)])
        self.assertEqual(told(self, places, row, [1, 2, 0]), [(0, 2, 3)])
        self.assertEqual(told(self, places, row, [0, 2, 1]), [(1, 2, 3)])
        self.assertEqual(told(self, places, row, [2, 0, 3, 1]), [(0, 1, 2, 3)])
        self.assertEqual(told(self, many, row, [1, 0]), 3)
        self.assertEqual(told(self, first, row, [1, 0]), (0, 1))
        self.assertEqual(told(self, first, row, [0, 2, 1]), (1, 2, 3))

    def test_an_order_is_not_taken_turned_over(self):
        row = [10, 20, 0]
        self.assertEqual(places(row, [1, 2, 0]), [(0, 1, 2)])
        self.assertEqual(places(row, [2, 0, 1]), [])

    def test_all_small_shapes(self):
        for size in range(6):
            for row in itertools.permutations(range(size)):
                for order in ORDERS:
                    self.agree(list(row), order)

    def test_great_numbers(self):
        for size in range(13):
            for order in ORDERS:
                self.agree(great_row(size, size), order)

    def test_twelve_numbers(self):
        rising = list(range(12))
        self.assertEqual(told(self, many, rising, [0]), 12)
        self.assertEqual(told(self, many, rising, [0, 1]), 66)
        self.assertEqual(told(self, many, rising, [0, 1, 2]), 220)
        self.assertEqual(told(self, many, rising, [0, 1, 2, 3]), 495)
        self.assertEqual(places(rising, [0, 1, 2]), list(itertools.combinations(range(12), 3)))

    def test_nowhere(self):
        for row, order in [([], [0]), ([], [1, 0]), ([4], [0, 1]), ([1, 2], [1, 0]), ([1, 2, 3], [0, 2, 1]),
                           ([3, 1, 2], [0, 1, 2, 3]), (list(range(12)), [3, 2, 1, 0])]:
            self.assertEqual(told(self, places, row, order), [])
            self.assertEqual(told(self, many, row, order), 0)
            self.assertIsNone(told(self, first, row, order))

    def test_first_of_thirty_numbers(self):
        for seed in range(4):
            row = great_row(30, seed)
            for order in ORDERS:
                asked = places_by_trying(row, order)
                self.assertEqual(told(self, first, row, order), asked[0] if asked else None)

    def test_first_lies_at_the_end(self):
        row = list(range(29)) + [-1]
        self.assertEqual(told(self, first, row, [1, 0]), (0, 29))
        self.assertEqual(told(self, first, list(range(28)) + [29, 28], [0, 1, 3, 2]), (0, 1, 28, 29))
        self.assertIsNone(told(self, first, list(range(30)), [0, 1, 3, 2]))

    def test_first_of_thirteen_is_not_too_long(self):
        self.assertEqual(told(self, first, list(range(13)), [0, 1]), (0, 1))


class Kinds(unittest.TestCase):
    def test_rising_tuples_of_whole_numbers_in_a_list(self):
        for order in ORDERS:
            answer = places(great_row(12, 5), order)
            self.assertIs(type(answer), list)
            for one in answer:
                self.assertIs(type(one), tuple)
                self.assertEqual({type(place) for place in one}, {int})
                self.assertEqual(list(one), sorted(set(one)))
            self.assertEqual(answer, sorted(set(answer)))

    def test_many_and_first(self):
        self.assertIs(type(many([2, 1], [0])), int)
        self.assertIs(type(first([2, 1], [0])), tuple)
        self.assertIs(type(first([2, 1], [0])[0]), int)

    def test_own_list(self):
        for row in [[], [3], [5, -3, 9, 0], great_row(12, 8)]:
            for order in [[0], [1, 0], [1, 2, 0], [0, 1, 3, 2]]:
                assert_own_list(self, places, list(row), list(order))


class Refusals(unittest.TestCase):
    def test_no_row(self):
        for call in EACH:
            for row in TWO_ALIKE:
                assert_refuses(self, "NoRow", call, row, [0])
            for size in range(31, 61):
                assert_refuses(self, "NoRow", call, list(range(size)), [0, 1])

    def test_no_shape(self):
        for call in EACH:
            for order in NO_SHAPES + NO_SHAPES_BY_LENGTH:
                assert_refuses(self, "NoShape", call, [4, 2, 7], order)
                assert_refuses(self, "NoShape", call, [], order)

    def test_no_order(self):
        for call in EACH:
            for order in NO_ORDERS:
                assert_refuses(self, "NoOrder", call, [4, 2, 7], order)
                assert_refuses(self, "NoOrder", call, [], order)

    def test_too_long(self):
        for call in ALL:
            for size in range(13, 31):
                assert_refuses(self, "TooLong", call, list(range(size)), [1, 0])
                assert_refuses(self, "TooLong", call, list(range(size)), [0, 1, 2, 3])

    def test_no_row_goes_ahead_of_all(self):
        for call in EACH:
            for row in TWO_ALIKE + [list(range(31)), list(range(60))]:
                for order in NO_SHAPES + NO_SHAPES_BY_LENGTH + NO_ORDERS:
                    assert_refuses(self, "NoRow", call, row, order)

    def test_no_shape_and_no_order_go_ahead_of_too_long(self):
        for call in ALL:
            for size in [13, 30]:
                for order in NO_SHAPES + NO_SHAPES_BY_LENGTH:
                    assert_refuses(self, "NoShape", call, list(range(size)), order)
                for order in NO_ORDERS:
                    assert_refuses(self, "NoOrder", call, list(range(size)), order)

    def test_first_refuses_the_order_at_long_rows_too(self):
        for size in [13, 30]:
            assert_refuses(self, "NoShape", first, list(range(size)), [1, 2])
            assert_refuses(self, "NoOrder", first, list(range(size)), [])


if __name__ == "__main__":
    unittest.main()
