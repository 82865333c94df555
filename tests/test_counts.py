import inspect
import math
import unittest

from helper import (GREAT, NOT_SHAPES, NOT_SIZES, assert_own_list, assert_refuses, assert_within_a_second,
                    fall_sum_by_hand, falls_by_hand, mixed_shape, shapes_of_size, shapes_of_thirty, small_shapes,
                    told, wrong_pairs_by_hand)
from shapeorders import counts
from shapeorders.counts import fall_sum, falls, many_falls, many_wrong, wrong_pairs

OF_A_SHAPE = [falls, wrong_pairs, fall_sum]
OF_A_SIZE = [many_falls, many_wrong]


def falls_by_formula(size, many):
    return sum((-1) ** k * math.comb(size + 1, k) * (many + 1 - k) ** size for k in range(many + 1))


def wrong_by_dealing(size):
    """Each number may be put ahead of none up to all of the lesser ones, and makes a wrong pair with each of them."""
    ways = {0: 1}
    for many in range(size):
        dealt = {}
        for pairs, count in ways.items():
            for more in range(many + 1):
                dealt[pairs + more] = dealt.get(pairs + more, 0) + count
        ways = dealt
    return ways


class Interface(unittest.TestCase):
    def test_names_and_arguments(self):
        asked = {"falls": ["shape"], "wrong_pairs": ["shape"], "fall_sum": ["shape"],
                 "many_falls": ["size", "falls"], "many_wrong": ["size", "pairs"]}
        for name, arguments in asked.items():
            self.assertEqual(list(inspect.signature(getattr(counts, name)).parameters), arguments)

    def test_kinds(self):
        for shape in [[], [0], [1, 0], mixed_shape(30, 3)]:
            self.assertIs(type(falls(shape)), list)
            self.assertEqual([place for place in falls(shape) if type(place) is not int], [])
            self.assertIs(type(wrong_pairs(shape)), int)
            self.assertIs(type(fall_sum(shape)), int)
        for call in OF_A_SIZE:
            for number in [0, 3, 1000]:
                self.assertIs(type(call(4, number)), int)


class OfAShape(unittest.TestCase):
    def agree(self, shape):
        self.assertEqual(told(self, falls, shape), falls_by_hand(shape))
        self.assertEqual(told(self, wrong_pairs, shape), wrong_pairs_by_hand(shape))
        self.assertEqual(told(self, fall_sum, shape), fall_sum_by_hand(shape))

    def test_written_out(self):
        for shape, places, pairs, places_and_one in [
                ([], [], 0, 0), ([0], [], 0, 0), ([0, 1], [], 0, 0), ([1, 0], [0], 1, 1),
                ([2, 0, 1], [0], 2, 1), ([1, 2, 0], [1], 2, 2), ([2, 1, 0], [0, 1], 3, 3),
                ([3, 0, 2, 1], [0, 2], 4, 4), ([0, 3, 1, 2], [1], 2, 2)]:
            self.assertEqual(told(self, falls, shape), places)
            self.assertEqual(told(self, wrong_pairs, shape), pairs)
            self.assertEqual(told(self, fall_sum, shape), places_and_one)

    def test_small_shapes(self):
        for shape in small_shapes():
            self.agree(shape)

    def test_thirty_numbers(self):
        for shape in shapes_of_thirty():
            self.agree(shape)
        falling = list(range(29, -1, -1))
        self.assertEqual(falls(falling), list(range(29)))
        self.assertEqual(wrong_pairs(falling), 435)
        self.assertEqual(fall_sum(falling), 435)

    def test_each_length(self):
        for size in range(31):
            self.agree(mixed_shape(size, size))

    def test_no_shapes(self):
        for call in OF_A_SHAPE:
            for some in NOT_SHAPES:
                assert_refuses(self, "NoShape", call, list(some))

    def test_own_list(self):
        for shape in [[], [0], [1, 0], [2, 1, 0], mixed_shape(30, 8)]:
            assert_own_list(self, falls, shape)


class HowMany(unittest.TestCase):
    def test_written_out(self):
        self.assertEqual([many_falls(4, number) for number in range(6)], [1, 11, 11, 1, 0, 0])
        self.assertEqual([many_wrong(4, number) for number in range(9)], [1, 3, 5, 6, 5, 3, 1, 0, 0])
        self.assertEqual([many_falls(1, number) for number in range(3)], [1, 0, 0])
        self.assertEqual([many_wrong(1, number) for number in range(3)], [1, 0, 0])
        self.assertEqual(many_falls(20, 1), 1048555)
        self.assertEqual(many_wrong(20, 2), 189)

    def test_all_small_shapes(self):
        for size in range(1, 7):
            by_falls = [len(falls_by_hand(shape)) for shape in shapes_of_size(size)]
            by_pairs = [wrong_pairs_by_hand(shape) for shape in shapes_of_size(size)]
            by_sum = [fall_sum_by_hand(shape) for shape in shapes_of_size(size)]
            for number in range(25):
                self.assertEqual(told(self, many_falls, size, number), by_falls.count(number))
                self.assertEqual(told(self, many_wrong, size, number), by_pairs.count(number))
                self.assertEqual(many_wrong(size, number), by_sum.count(number))

    def test_as_many_by_fall_sum_as_by_wrong_pairs(self):
        for size in range(1, 7):
            sums = [fall_sum(shape) for shape in shapes_of_size(size)]
            pairs = [wrong_pairs(shape) for shape in shapes_of_size(size)]
            self.assertEqual(sorted(sums), sorted(pairs))

    def test_all_together_come_to_all_shapes(self):
        for size in range(1, 21):
            self.assertEqual(sum(many_falls(size, number) for number in range(size)), math.factorial(size))
            most = size * (size - 1) // 2
            self.assertEqual(sum(many_wrong(size, number) for number in range(most + 1)), math.factorial(size))

    def test_each_size(self):
        for size in range(1, 21):
            for number in range(size):
                self.assertEqual(many_falls(size, number), falls_by_formula(size, number))
            dealt = wrong_by_dealing(size)
            for number in range(200):
                self.assertEqual(many_wrong(size, number), dealt.get(number, 0))

    def test_none_beyond(self):
        for size in range(1, 21):
            most = size * (size - 1) // 2
            self.assertEqual(many_falls(size, size - 1), 1)
            self.assertEqual(many_wrong(size, most), 1)
            for beyond in [1, 2, 3, 60, 10 ** 6, 10 ** 59]:
                self.assertEqual(told(self, many_falls, size, size - 1 + beyond), 0)
                self.assertEqual(told(self, many_wrong, size, most + beyond), 0)
            for call in OF_A_SIZE:
                self.assertEqual(call(size, GREAT), 0)

    def test_no_size(self):
        for call in OF_A_SIZE:
            for size in NOT_SIZES:
                for number in [0, 1, 5, 500, GREAT]:
                    assert_refuses(self, "NoSize", call, size, number)

    def test_no_number(self):
        for call in OF_A_SIZE:
            for size in range(1, 21):
                for number in [-1, -2, -size, -200, -GREAT]:
                    assert_refuses(self, "NoNumber", call, size, number)

    def test_no_size_goes_ahead_of_no_number(self):
        for call in OF_A_SIZE:
            for size in NOT_SIZES:
                for number in [-1, -2, -200, -GREAT]:
                    assert_refuses(self, "NoSize", call, size, number)


class Time(unittest.TestCase):
    def test_greatest(self):
        for call in OF_A_SHAPE:
            for shape in shapes_of_thirty():
                assert_within_a_second(self, call, shape)
        for call in OF_A_SIZE:
            for number in [0, 10, 19, 95, 190, 191, GREAT]:
                assert_within_a_second(self, call, 20, number)


if __name__ == "__main__":
    unittest.main()
