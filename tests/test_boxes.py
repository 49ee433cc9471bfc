import copy
import itertools
import unittest
from fractions import Fraction
from math import ceil

from nearenough.boxes import fewest, fill_first, fill_last, is_filling, worst_first, worst_last

MOST = 10 ** 12

LARGE = (
    (1, []),
    (1, [1]),
    (1, [1] * 200),
    (MOST, [MOST]),
    (MOST, [MOST] * 200),
    (MOST, [1] * 200),
    (MOST, [MOST // 2, MOST // 2, MOST // 2 + 1, MOST // 2] * 50),
    (200, list(range(1, 201))),
    (200, list(range(200, 0, -1))),
    (101, [thing * 7919 % 101 + 1 for thing in range(200)]),
    (50, [thing * thing * 37 % 50 + 1 for thing in range(199)]),
    (10, [6, 4] * 100),
    (10, [6, 5, 4] * 66),
)


def loads(sizes, boxes):
    """What each box has by a filling."""
    told = {}
    for size, box in zip(sizes, boxes):
        told[box] = told.get(box, 0) + size
    return told


def last_by_the_words(room, sizes):
    filling = []
    for at, size in enumerate(sizes):
        last = max(filling, default=None)
        if last is not None and loads(sizes[:at], filling)[last] + size <= room:
            filling.append(last)
        else:
            filling.append(0 if last is None else last + 1)
    return filling


def first_by_the_words(room, sizes):
    filling = []
    for at, size in enumerate(sizes):
        so_far = loads(sizes[:at], filling)
        boxes = [box for box in sorted(so_far) if room - so_far[box] >= size]
        filling.append((boxes + [len(so_far)])[0])
    return filling


def filling_by_the_words(room, sizes, boxes):
    begun = []
    for box in boxes:
        if box not in begun:
            begun.append(box)
    return (len(boxes) == len(sizes) and begun == list(range(len(begun)))
            and all(load <= room for load in loads(sizes, boxes).values()))


def least_boxes(room, sizes):
    """The fewest boxes of all fillings, all of them gone through."""
    least = len(sizes)
    for boxes in itertools.product(range(len(sizes)), repeat=len(sizes)):
        if filling_by_the_words(room, sizes, boxes):
            least = min(least, len(set(boxes)))
    return least


class BoxesCase(unittest.TestCase):
    def assert_list(self, told, filling):
        self.assertEqual(told, filling)
        self.assertIs(type(told), list)
        self.assertTrue(all(type(box) is int for box in told))


class Last(BoxesCase):
    def assert_told(self, room, sizes, filling):
        self.assert_list(fill_last(room, sizes), filling)

    def test_by_hand(self):
        self.assert_told(10, [5, 6, 5], [0, 1, 2])
        self.assert_told(10, [2, 3, 4, 5, 1], [0, 0, 0, 1, 1])
        self.assert_told(10, [6, 3, 7, 1, 2, 1], [0, 0, 1, 1, 1, 2])

    def test_only_the_box_begun_last(self):
        self.assert_told(10, [1, 10, 1], [0, 1, 2])
        self.assert_told(10, [1, 10, 9, 1, 1], [0, 1, 2, 2, 3])

    def test_filled_to_the_last(self):
        self.assert_told(10, [6, 4, 1], [0, 0, 1])
        self.assert_told(10, [6, 5], [0, 1])
        self.assert_told(3, [1, 1, 1, 1], [0, 0, 0, 1])

    def test_no_things(self):
        for room in (1, 2, MOST):
            self.assert_told(room, [], [])

    def test_one_thing(self):
        for room in (1, 2, MOST):
            self.assert_told(room, [room], [0])
            self.assert_told(room, [1], [0])
            self.assert_told(room, [room, room], [0, 1])

    def test_every_small_list(self):
        for length in range(6):
            for sizes in itertools.product((1, 2, 3, 4), repeat=length):
                self.assert_told(4, list(sizes), last_by_the_words(4, list(sizes)))

    def test_many_things(self):
        for room, sizes in LARGE:
            self.assert_told(room, sizes, last_by_the_words(room, sizes))


class First(BoxesCase):
    def assert_told(self, room, sizes, filling):
        self.assert_list(fill_first(room, sizes), filling)

    def test_by_hand(self):
        self.assert_told(10, [5, 6, 5], [0, 1, 0])
        self.assert_told(10, [6, 7, 8, 2, 3, 4], [0, 1, 2, 0, 1, 3])
        self.assert_told(10, [9, 8, 1, 1, 1, 1], [0, 1, 0, 1, 1, 2])

    def test_of_several_the_first(self):
        self.assert_told(10, [6, 6, 6, 4, 4, 4], [0, 1, 2, 0, 1, 2])
        self.assert_told(10, [5, 9, 8, 1, 1], [0, 1, 2, 0, 0])

    def test_filled_to_the_last(self):
        self.assert_told(10, [6, 4, 1], [0, 0, 1])
        self.assert_told(10, [6, 5, 4, 5], [0, 1, 0, 1])
        self.assert_told(3, [1, 1, 1, 1], [0, 0, 0, 1])

    def test_no_things(self):
        for room in (1, 2, MOST):
            self.assert_told(room, [], [])

    def test_one_thing(self):
        for room in (1, 2, MOST):
            self.assert_told(room, [room], [0])
            self.assert_told(room, [1], [0])
            self.assert_told(room, [room, room], [0, 1])

    def test_every_small_list(self):
        for length in range(6):
            for sizes in itertools.product((1, 2, 3, 4), repeat=length):
                self.assert_told(4, list(sizes), first_by_the_words(4, list(sizes)))

    def test_many_things(self):
        for room, sizes in LARGE:
            self.assert_told(room, sizes, first_by_the_words(room, sizes))


class Fillings(BoxesCase):
    def assert_is(self, room, sizes, boxes):
        self.assertIs(is_filling(room, sizes, boxes), True)

    def assert_none(self, room, sizes, boxes):
        self.assertIs(is_filling(room, sizes, boxes), False)

    def test_by_hand(self):
        self.assert_is(10, [5, 6, 5], [0, 1, 0])
        self.assert_is(10, [5, 6, 5], [0, 1, 2])
        self.assert_is(10, [5, 6, 5, 1], [0, 1, 2, 0])

    def test_no_things(self):
        self.assert_is(1, [], [])
        self.assert_none(1, [], [0])

    def test_too_long_and_too_short(self):
        self.assert_none(10, [1, 1], [0])
        self.assert_none(10, [1, 1], [])
        self.assert_none(10, [1, 1], [0, 0, 0])
        self.assert_none(10, [1, 1], [0, 1, 2])
        self.assert_is(10, [1, 1], [0, 0])

    def test_numbers_below_nought(self):
        self.assert_none(10, [1, 1], [-1, 0])
        self.assert_none(10, [1, 1], [0, -1])
        self.assert_none(10, [1, 1], [-1, -1])
        self.assert_none(10, [1, 1, 1], [0, 1, -2])

    def test_not_numbered_as_they_are_begun(self):
        self.assert_none(10, [1, 1], [1, 0])
        self.assert_none(10, [1, 1], [1, 1])
        self.assert_none(10, [1, 1], [0, 2])
        self.assert_none(10, [1, 1, 1], [0, 2, 1])
        self.assert_none(10, [1, 1], [0, MOST])
        self.assert_is(10, [1, 1, 1], [0, 1, 2])
        self.assert_is(10, [1, 1, 1], [0, 1, 0])

    def test_just_full_and_too_full(self):
        self.assert_is(10, [6, 4], [0, 0])
        self.assert_none(10, [6, 5], [0, 0])
        self.assert_is(10, [1, 6, 4], [0, 1, 1])
        self.assert_none(10, [1, 6, 5], [0, 1, 1])
        self.assert_none(10, [6, 1, 5], [0, 1, 0])
        self.assert_is(MOST, [MOST - 1, 1], [0, 0])
        self.assert_none(MOST, [MOST, 1], [0, 0])

    def test_every_small_list_of_numbers(self):
        for sizes in ([], [1], [4], [1, 3], [2, 2, 2], [1, 4, 3], [1, 2, 3]):
            for length in range(5):
                for boxes in itertools.product(range(-1, 4), repeat=length):
                    told = is_filling(4, sizes, list(boxes))
                    self.assertIs(told, filling_by_the_words(4, sizes, list(boxes)), (sizes, boxes))

    def test_the_rules_fillings(self):
        for room, sizes in LARGE:
            self.assert_is(room, sizes, fill_last(room, sizes))
            self.assert_is(room, sizes, fill_first(room, sizes))


class Fewest(BoxesCase):
    def assert_fewest(self, room, sizes, boxes):
        told = fewest(room, sizes)
        self.assertEqual(told, boxes)
        self.assertIs(type(told), int)

    def test_rounded_up(self):
        self.assert_fewest(10, [1], 1)
        self.assert_fewest(10, [5, 6], 2)
        self.assert_fewest(10, [7, 7, 7], 3)
        self.assert_fewest(10, [1, 10], 2)
        self.assert_fewest(MOST, [MOST] * 199 + [1], 200)

    def test_just_even(self):
        self.assert_fewest(10, [10], 1)
        self.assert_fewest(10, [5, 5, 5, 5], 2)
        self.assert_fewest(10, [5, 5, 5, 4], 2)
        self.assert_fewest(1, [1] * 200, 200)
        self.assert_fewest(MOST, [MOST] * 200, 200)

    def test_no_things(self):
        for room in (1, 2, MOST):
            self.assert_fewest(room, [], 0)

    def test_many_things(self):
        for room, sizes in LARGE:
            self.assert_fewest(room, sizes, ceil(Fraction(sum(sizes), room)))


class Factors(BoxesCase):
    def test_against_all_fillings(self):
        for room in (1, 2, 3, 4, 5):
            for length in range(1, 6):
                for sizes in itertools.combinations_with_replacement(range(1, room + 1), length):
                    least = least_boxes(room, sizes)
                    self.assertLessEqual(fewest(room, list(sizes)), least)
                    for order in (list(sizes), list(sizes)[::-1], list(sizes[::2] + sizes[1::2])):
                        for rule in (fill_last, fill_first):
                            self.assertLessEqual(max(rule(room, order)) + 1, 2 * least - 1)

    def test_many_things(self):
        for room, sizes in LARGE:
            for rule in (fill_last, fill_first):
                boxes = max(rule(room, sizes), default=-1) + 1
                self.assertLessEqual(fewest(room, sizes), boxes)
                self.assertLessEqual(boxes, max(2 * fewest(room, sizes) - 1, 0))


class Worst(BoxesCase):
    def assert_case(self, told, room, sizes, boxes):
        self.assertIs(type(told), tuple)
        self.assertEqual([type(part) for part in told], [int, list, list])
        self.assertEqual(told[:2], (room, sizes))
        self.assertTrue(all(type(number) is int for part in told[1:] for number in part))
        self.assertIs(is_filling(room, sizes, told[2]), True)
        self.assertTrue(filling_by_the_words(room, sizes, told[2]))
        self.assertEqual(len(set(told[2])), boxes)

    def test_last_for_each_size(self):
        for size in range(2, 41):
            with self.subTest(size=size):
                sizes = [1 if at % 2 else size + 1 for at in range(4 * size)]
                self.assert_case(worst_last(size), 2 * size + 2, sizes, size + 1)

    def test_the_first_rule_there(self):
        for size in range(2, 41):
            room, sizes, other = worst_last(size)
            self.assertEqual(max(fill_last(room, sizes)) + 1, 2 * size)

    def test_first_for_each_size(self):
        for size in range(1, 6):
            with self.subTest(size=size):
                sizes = [160] * 6 * size + [339] * 6 * size + [501] * 6 * size
                self.assert_case(worst_first(size), 1000, sizes, 6 * size)

    def test_the_second_rule_there(self):
        for size in range(1, 6):
            room, sizes, other = worst_first(size)
            self.assertEqual(max(fill_first(room, sizes)) + 1, 10 * size)

    def test_smallest_by_hand(self):
        self.assertEqual(worst_last(2)[:2], (6, [3, 1, 3, 1, 3, 1, 3, 1]))
        self.assertEqual(worst_first(1)[:2], (1000, [160] * 6 + [339] * 6 + [501] * 6))


class Kept(BoxesCase):
    def test_what_is_handed_in_stays(self):
        for room, sizes in LARGE:
            before = copy.deepcopy(sizes)
            filling = fill_last(room, sizes)
            fill_first(room, sizes)
            fewest(room, sizes)
            paper = copy.deepcopy(filling)
            is_filling(room, sizes, filling)
            self.assertEqual(filling, paper)
            self.assertEqual(sizes, before)

    def test_told_lists_are_the_askers_own(self):
        for rule, filling in ((fill_last, [0, 1, 2]), (fill_first, [0, 1, 0])):
            first = rule(10, [5, 6, 5])
            first.append(9)
            first[0] = 9
            self.assertEqual(rule(10, [5, 6, 5]), filling)
            rule(10, []).append(9)
            self.assertEqual(rule(10, []), [])

    def test_told_lists_stay(self):
        sizes = [5, 6, 5]
        told = (fill_last(10, sizes), fill_first(10, sizes))
        sizes.clear()
        fill_last(10, [1, 1])
        fill_first(10, [1, 1])
        self.assertEqual(told, ([0, 1, 2], [0, 1, 0]))

    def test_worst_cases_are_the_askers_own(self):
        for worst in (worst_last, worst_first):
            before = copy.deepcopy(worst(3))
            room, sizes, other = worst(3)
            sizes.clear()
            other[0] = 9
            self.assertEqual(worst(3), before)


if __name__ == "__main__":
    unittest.main()
