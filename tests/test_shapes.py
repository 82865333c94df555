import inspect
import itertools
import unittest

from helper import assert_own_list, assert_refuses, great_row, mixed_shape, told
from shapeorders import shapes
from shapeorders.shapes import backward, contrary, is_shape, shape_of, turned_over

OF_A_SHAPE = [backward, contrary, turned_over]

NO_SHAPES = [
    [1],
    [-1],
    [0, 0],
    [1, 1],
    [1, 2],
    [0, 2],
    [-1, 0],
    [0, 1, 3],
    [0, 1, 1],
    [2, 0, 2],
    [0, 1, 2, -1],
    [10 ** 60 - 1, 0],
    [-(10 ** 60 - 1), 0],
    list(range(1, 31)),
    list(range(29)) + [30],
    list(range(29)) + [28],
    [-1] + list(range(29)),
]

TOO_MANY = [list(range(size)) for size in range(31, 61)]


class Interface(unittest.TestCase):
    def test_names_and_arguments(self):
        asked = {"shape_of": ["row"], "is_shape": ["some"], "backward": ["shape"],
                 "contrary": ["shape"], "turned_over": ["shape"]}
        for name, arguments in asked.items():
            self.assertEqual(list(inspect.signature(getattr(shapes, name)).parameters), arguments)


class ShapeOf(unittest.TestCase):
    def test_written_out(self):
        self.assertEqual(told(self, shape_of, [30, 10, 20]), [2, 0, 1])
        self.assertEqual(told(self, shape_of, [-5, 7, 0, -9]), [1, 3, 2, 0])
        self.assertEqual(told(self, shape_of, [2, 1]), [1, 0])
        self.assertEqual(told(self, shape_of, [10 ** 60 - 1, -(10 ** 60 - 1), 0]), [2, 0, 1])
        self.assertEqual(told(self, shape_of, [10 ** 59 + 1, 10 ** 59, 10 ** 59 + 2]), [1, 0, 2])
        self.assertEqual(told(self, shape_of, [-(10 ** 59) - 1, -(10 ** 59)]), [0, 1])

    def test_edges(self):
        self.assertEqual(told(self, shape_of, []), [])
        self.assertEqual(told(self, shape_of, [-4]), [0])
        self.assertEqual(told(self, shape_of, list(range(30, 0, -1))), list(range(29, -1, -1)))

    def test_rows_of_each_length(self):
        for size in range(31):
            row = great_row(size, size)
            answer = told(self, shape_of, row)
            self.assertEqual(answer, [sorted(row).index(number) for number in row])
            self.assertTrue(is_shape(answer))

    def test_a_shape_is_its_own_shape(self):
        for size in range(6):
            for shape in itertools.permutations(range(size)):
                self.assertEqual(shape_of(list(shape)), list(shape))

    def test_two_alike(self):
        for row in [[0, 0], [3, 1, 3], [-2, -2], [10 ** 59, 5, 10 ** 59], list(range(29)) + [0]]:
            assert_refuses(self, "NoRow", shape_of, row)

    def test_too_many(self):
        for row in TOO_MANY:
            assert_refuses(self, "NoRow", shape_of, row)
            assert_refuses(self, "NoRow", shape_of, [7] * len(row))

    def test_own_list(self):
        for size in [0, 1, 2, 5, 30]:
            assert_own_list(self, shape_of, list(range(size)))


class IsShape(unittest.TestCase):
    def test_shapes(self):
        for shape in [[], [0], [1, 0], [2, 0, 1], list(range(30)), list(range(29, -1, -1))]:
            self.assertIs(told(self, is_shape, shape), True)

    def test_no_shapes(self):
        for some in NO_SHAPES + TOO_MANY:
            self.assertIs(told(self, is_shape, some), False, some)

    def test_all_small_lists(self):
        for size in range(5):
            for some in itertools.product(range(-1, size + 1), repeat=size):
                asked = all(some.count(number) == 1 for number in range(size))
                self.assertIs(is_shape(list(some)), asked)


class OfAShape(unittest.TestCase):
    def test_written_out(self):
        self.assertEqual(told(self, backward, [1, 2, 0, 3]), [3, 0, 2, 1])
        self.assertEqual(told(self, contrary, [1, 2, 0, 3]), [2, 1, 3, 0])
        self.assertEqual(told(self, turned_over, [1, 2, 0, 3]), [2, 0, 1, 3])

    def test_edges(self):
        for call in OF_A_SHAPE:
            self.assertEqual(told(self, call, []), [])
            self.assertEqual(told(self, call, [0]), [0])
        rising = list(range(30))
        falling = list(range(29, -1, -1))
        self.assertEqual(told(self, backward, rising), falling)
        self.assertEqual(told(self, contrary, rising), falling)
        self.assertEqual(told(self, turned_over, rising), rising)
        self.assertEqual(told(self, turned_over, falling), falling)

    def test_as_the_document_tells_it(self):
        for size in range(31):
            shape = mixed_shape(size, size)
            behind = told(self, backward, shape)
            against = told(self, contrary, shape)
            over = told(self, turned_over, shape)
            for place in range(size):
                self.assertEqual(behind[place], shape[size - 1 - place])
                self.assertEqual(against[place] + shape[place], size - 1)
                self.assertEqual(shape[over[place]], place)
            for answer in [behind, against, over]:
                self.assertEqual(len(answer), size)
                self.assertTrue(is_shape(answer))

    def test_back_again_by_the_same(self):
        for size in range(31):
            shape = mixed_shape(size, 100 + size)
            for call in OF_A_SHAPE:
                self.assertEqual(call(call(shape)), shape)

    def test_no_shapes(self):
        for call in OF_A_SHAPE:
            for some in NO_SHAPES + TOO_MANY:
                assert_refuses(self, "NoShape", call, some)

    def test_own_list(self):
        for call in OF_A_SHAPE:
            for size in [0, 1, 2, 5, 30]:
                assert_own_list(self, call, list(range(size)))
                assert_own_list(self, call, mixed_shape(size, size))


if __name__ == "__main__":
    unittest.main()
