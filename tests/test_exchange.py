import inspect
import itertools
import unittest

from helper import (NOT_SHAPES, assert_own_list, assert_refuses, assert_within_a_second, fall_sum_by_hand, mixed_shape,
                    shapes_of_size, shapes_of_thirty, small_shapes, told, wrong_pairs_by_hand)
from shapeorders import exchange
from shapeorders.counts import fall_sum, wrong_pairs
from shapeorders.exchange import exchanged, exchanged_back

EACH = [exchanged, exchanged_back]


def exchanged_by_hand(shape):
    """The document's steps: cuts behind the places that it names, and the last of each part put first."""
    ahead = []
    for number in shape:
        if ahead:
            if ahead[-1] < number:
                cuts = [place + 1 for place, one in enumerate(ahead) if one < number]
            else:
                cuts = [place + 1 for place, one in enumerate(ahead) if one > number]
            parts = [ahead[start:end] for start, end in itertools.pairwise([0] + cuts)]
            ahead = [one for part in parts for one in part[-1:] + part[:-1]]
        ahead = ahead + [number]
    return ahead


class Interface(unittest.TestCase):
    def test_names_and_arguments(self):
        for name in ["exchanged", "exchanged_back"]:
            self.assertEqual(list(inspect.signature(getattr(exchange, name)).parameters), ["shape"])


class Exchanged(unittest.TestCase):
    def agree(self, shape):
        answer = told(self, exchanged, shape)
        self.assertEqual(answer, exchanged_by_hand(shape))
        self.assertEqual(wrong_pairs_by_hand(answer), fall_sum_by_hand(shape))
        self.assertEqual(wrong_pairs(answer), fall_sum(shape))
        self.assertEqual(answer[-1:], shape[-1:])
        self.assertEqual(told(self, exchanged_back, answer), shape)
        self.assertEqual(exchanged(told(self, exchanged_back, shape)), shape)

    def test_written_out(self):
        for shape, answer in [
                ([], []), ([0], [0]), ([0, 1], [0, 1]), ([1, 0], [1, 0]), ([0, 1, 2], [0, 1, 2]),
                ([0, 2, 1], [2, 0, 1]), ([1, 0, 2], [1, 0, 2]), ([1, 2, 0], [1, 2, 0]), ([2, 0, 1], [0, 2, 1]),
                ([2, 1, 0], [2, 1, 0]), ([0, 3, 1, 2], [0, 3, 1, 2]), ([3, 0, 2, 1], [3, 0, 2, 1]), ([0, 3, 2, 1], [3, 2, 0, 1])]:
            self.assertEqual(exchanged_by_hand(shape), answer)
            self.assertEqual(told(self, exchanged, shape), answer)
            self.assertEqual(told(self, exchanged_back, answer), shape)

    def test_small_shapes(self):
        for shape in small_shapes():
            self.agree(shape)

    def test_each_small_shape_comes_of_just_one(self):
        for size in range(7):
            for call in EACH:
                self.assertEqual(sorted(call(shape) for shape in shapes_of_size(size)), shapes_of_size(size))

    def test_thirty_numbers(self):
        for shape in shapes_of_thirty():
            self.agree(shape)

    def test_each_length(self):
        for size in range(31):
            self.agree(mixed_shape(size, size))

    def test_no_shapes(self):
        for call in EACH:
            for some in NOT_SHAPES:
                assert_refuses(self, "NoShape", call, list(some))

    def test_own_list(self):
        for call in EACH:
            for shape in [[], [0], [1, 0], [0, 1, 2], [2, 0, 1], mixed_shape(30, 9)]:
                assert_own_list(self, call, shape)


class Time(unittest.TestCase):
    def test_greatest(self):
        for call in EACH:
            for shape in shapes_of_thirty():
                assert_within_a_second(self, call, shape)


if __name__ == "__main__":
    unittest.main()
