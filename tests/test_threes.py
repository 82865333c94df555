import inspect
import itertools
import math
import random
import unittest

from helper import (GREAT, NOT_SHAPES, NOT_SIZES, assert_own_list, assert_refuses, assert_within_a_second,
                    shapes_of_size, told)
from shapeorders import threes
from shapeorders.threes import led, many_without, number_of, without_at

THREES = shapes_of_size(3)
NOT_THREES = [[], [0], [0, 1], [1, 0], [0, 1, 2, 3], [2, 0, 3, 1]] + [list(range(size)) for size in range(5, 31)]
SIZES = range(1, 21)
# An order of three stands in all but the first of these, so that HasOrder would be due behind NoSize.
NOT_NUMBERED = [[]] + [list(range(size)) for size in range(21, 31)] + [list(range(size))[::-1] for size in (21, 30)]


def stands(shape, order):
    for numbers in itertools.combinations(shape, 3):
        rising = sorted(numbers)
        if [rising.index(number) for number in numbers] == order:
            return True
    return False


def without(size, order):
    return [shape for shape in shapes_of_size(size) if not stands(shape, order)]


def by_the_formula(size):
    return math.comb(2 * size, size) // (size + 1)


def some_numbers(size):
    most = by_the_formula(size)
    chance = random.Random(size)
    picked = [0, 1, most // 3, most // 2, most - 2, most - 1] + [chance.randrange(most) for _ in range(4)]
    return sorted({number for number in picked if 0 <= number < most})


class Interface(unittest.TestCase):
    def test_names_and_arguments(self):
        asked = {"many_without": ["size"], "without_at": ["size", "order", "number"],
                 "number_of": ["shape", "order"], "led": ["shape", "order", "other"]}
        for name, arguments in asked.items():
            self.assertEqual(list(inspect.signature(getattr(threes, name)).parameters), arguments)

    def test_kinds(self):
        for order in THREES:
            shape = without_at(5, order, 7)
            for answer in [shape, led(shape, order, [2, 0, 1])]:
                self.assertIs(type(answer), list)
                self.assertEqual({type(number) for number in answer}, {int})
            self.assertIs(type(number_of(shape, order)), int)
        self.assertIs(type(many_without(5)), int)


class Numbered(unittest.TestCase):
    def test_how_many(self):
        self.assertEqual([many_without(size) for size in range(1, 8)], [1, 2, 5, 14, 42, 132, 429])
        self.assertEqual(many_without(20), 6564120420)
        for size in SIZES:
            self.assertEqual(told(self, many_without, size), by_the_formula(size))

    def test_all_small_shapes(self):
        for size in range(1, 7):
            for order in THREES:
                asked = without(size, order)
                self.assertEqual(many_without(size), len(asked))
                answers = [told(self, without_at, size, order, number) for number in range(len(asked))]
                self.assertEqual(sorted(answers), asked)
                for number, shape in enumerate(answers):
                    self.assertEqual(told(self, number_of, shape, order), number)

    def test_some_of_each_size(self):
        for size in SIZES:
            for order in THREES:
                for number in some_numbers(size):
                    shape = told(self, without_at, size, order, number)
                    self.assertEqual(sorted(shape), list(range(size)))
                    self.assertFalse(stands(shape, order), (shape, order))
                    self.assertEqual(told(self, number_of, shape, order), number)

    def test_shapes_that_were_not_told_by_a_number(self):
        rising = list(range(20))
        shapes = [rising, rising[::-1], rising[10:] + rising[:10], rising[:10] + rising[:9:-1],
                  rising[9::-1] + rising[10:], rising[9::-1] + rising[:9:-1], rising[:9:-1] + rising[9::-1]]
        for shape in shapes:
            for order in THREES:
                if not stands(shape, order):
                    self.assertEqual(without_at(20, order, number_of(shape, order)), shape)


class Led(unittest.TestCase):
    def agree(self, shape, order, other):
        answer = told(self, led, shape, order, other)
        self.assertEqual(sorted(answer), list(range(len(shape))))
        self.assertFalse(stands(answer, other))
        self.assertEqual(number_of(answer, other), number_of(shape, order))
        self.assertEqual(told(self, led, answer, other, order), shape)
        if order == other:
            self.assertEqual(answer, shape)

    def test_all_small_shapes(self):
        for size in range(1, 6):
            for order in THREES:
                for shape in without(size, order):
                    for other in THREES:
                        self.agree(shape, order, other)

    def test_some_of_each_size(self):
        for size in SIZES:
            number = random.Random(100 + size).randrange(many_without(size))
            for order, other in itertools.product(THREES, THREES):
                self.agree(without_at(size, order, number), order, other)

    def test_the_other_order_may_stand_in_the_shape(self):
        self.assertEqual(sorted(led([0, 1, 2, 3], [2, 1, 0], [0, 1, 2])), [0, 1, 2, 3])
        for order, other in itertools.permutations(THREES, 2):
            self.agree(list(other), order, other)


class Own(unittest.TestCase):
    def test_own_lists(self):
        for size in [1, 2, 3, 7, 20]:
            for order in THREES:
                shape = without_at(size, order, many_without(size) // 2)
                assert_own_list(self, without_at, size, list(order), many_without(size) // 2)
                for other in THREES:
                    assert_own_list(self, led, list(shape), list(order), list(other))

    def test_one_list_handed_in_twice(self):
        for order in THREES:
            assert_refuses(self, "HasOrder", number_of, order, order)
            assert_refuses(self, "HasOrder", led, order, order, order)
            shape = without_at(6, order, 100)
            self.assertEqual(told(self, led, shape, order, order), shape)


class Refusals(unittest.TestCase):
    def test_many_without(self):
        for size in NOT_SIZES:
            assert_refuses(self, "NoSize", many_without, size)

    def test_no_shape(self):
        for some in NOT_SHAPES:
            assert_refuses(self, "NoShape", without_at, 5, list(some), 3)
            assert_refuses(self, "NoShape", number_of, list(some), [0, 1, 2])
            assert_refuses(self, "NoShape", number_of, [0, 2, 1], list(some))
            assert_refuses(self, "NoShape", led, list(some), [0, 1, 2], [0, 2, 1])
            assert_refuses(self, "NoShape", led, [0, 2, 1], list(some), [0, 2, 1])
            assert_refuses(self, "NoShape", led, [0, 2, 1], [0, 1, 2], list(some))

    def test_no_order(self):
        for order in NOT_THREES:
            assert_refuses(self, "NoOrder", without_at, 5, order, 3)
            assert_refuses(self, "NoOrder", number_of, [0, 2, 1], order)
            assert_refuses(self, "NoOrder", led, [0, 2, 1], order, [0, 2, 1])
            assert_refuses(self, "NoOrder", led, [0, 2, 1], [0, 1, 2], order)
            assert_refuses(self, "NoOrder", led, [0, 2, 1], order, list(order))

    def test_no_size(self):
        for order in THREES:
            for size in NOT_SIZES:
                assert_refuses(self, "NoSize", without_at, size, order, 0)
            for shape in NOT_NUMBERED:
                assert_refuses(self, "NoSize", number_of, shape, order)
                for other in THREES:
                    assert_refuses(self, "NoSize", led, shape, order, list(other))

    def test_has_order(self):
        for order, other in itertools.product(THREES, THREES):
            ahead = order + list(range(3, 20))
            behind = list(range(17)) + [17 + number for number in order]
            for shape in [list(order), ahead, behind]:
                assert_refuses(self, "HasOrder", number_of, shape, order)
                assert_refuses(self, "HasOrder", led, shape, order, list(other))
        for size in range(3, 6):
            for order in THREES:
                for shape in shapes_of_size(size):
                    if stands(shape, order):
                        assert_refuses(self, "HasOrder", number_of, shape, order)
                        assert_refuses(self, "HasOrder", led, shape, order, [1, 2, 0])

    def test_no_number(self):
        for size in SIZES:
            most = by_the_formula(size)
            for order in THREES:
                for number in [-1, -2, -most, -GREAT, most, most + 1, 2 * most, 10 ** 59, GREAT]:
                    assert_refuses(self, "NoNumber", without_at, size, order, number)


class TheOneThatGoesFirst(unittest.TestCase):
    def test_without_at(self):
        for size in NOT_SIZES + [5]:
            for number in [-1, -GREAT, 3, GREAT]:
                for some in NOT_SHAPES:
                    assert_refuses(self, "NoShape", without_at, size, list(some), number)
                for order in NOT_THREES:
                    assert_refuses(self, "NoOrder", without_at, size, order, number)
        for size in NOT_SIZES:
            for number in [-1, -GREAT, 0, GREAT]:
                for order in THREES:
                    assert_refuses(self, "NoSize", without_at, size, order, number)

    def test_number_of_no_shape(self):
        for some in NOT_SHAPES:
            for order in NOT_THREES + NOT_SHAPES:
                assert_refuses(self, "NoShape", number_of, list(some), list(order))
            for shape in NOT_NUMBERED:
                assert_refuses(self, "NoShape", number_of, shape, list(some))

    def test_number_of_no_order_and_no_size(self):
        for order in NOT_THREES:
            for shape in NOT_NUMBERED + [[0, 1, 2, 3], [3, 2, 1, 0]]:
                assert_refuses(self, "NoOrder", number_of, list(shape), order)
        for size in range(21, 31):
            assert_refuses(self, "NoSize", number_of, list(range(size)), [0, 1, 2])
            assert_refuses(self, "NoSize", number_of, list(range(size))[::-1], [2, 1, 0])

    def test_led_no_shape(self):
        right = [0, 1, 2]
        for some in NOT_SHAPES:
            for wrong in NOT_THREES:
                assert_refuses(self, "NoShape", led, list(some), wrong, right)
                assert_refuses(self, "NoShape", led, list(some), right, wrong)
                assert_refuses(self, "NoShape", led, [0, 2, 1], wrong, list(some))
                assert_refuses(self, "NoShape", led, [0, 2, 1], list(some), wrong)
            for shape in NOT_NUMBERED + [[0, 1, 2], [0, 1, 2, 3]]:
                assert_refuses(self, "NoShape", led, list(shape), list(some), right)
                assert_refuses(self, "NoShape", led, list(shape), right, list(some))

    def test_led_no_order_and_no_size(self):
        right = [0, 1, 2]
        for wrong in NOT_THREES:
            for shape in NOT_NUMBERED + [[0, 1, 2], [0, 1, 2, 3]]:
                assert_refuses(self, "NoOrder", led, list(shape), wrong, right)
                assert_refuses(self, "NoOrder", led, list(shape), right, wrong)
        for size in range(21, 31):
            for other in THREES:
                assert_refuses(self, "NoSize", led, list(range(size)), right, list(other))


class Time(unittest.TestCase):
    def test_greatest(self):
        assert_within_a_second(self, many_without, 20)
        for order in THREES:
            for number in some_numbers(20):
                shape = without_at(20, order, number)
                assert_within_a_second(self, without_at, 20, order, number)
                assert_within_a_second(self, number_of, shape, order)
                for other in THREES:
                    assert_within_a_second(self, led, shape, order, other)


if __name__ == "__main__":
    unittest.main()
