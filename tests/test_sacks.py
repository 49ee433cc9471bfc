import copy
import itertools
import unittest
from fractions import Fraction

from nearenough.sacks import lets_packing, pack, worst_packing

MOST = 10 ** 12

LARGE = (
    (1, []),
    (1, [(5, 2)]),
    (1, [(0, 1)]),
    (MOST, [(MOST, MOST)]),
    (MOST, [(MOST, MOST)] * 100),
    (MOST, [(MOST, 1)] * 100),
    (MOST, [(0, MOST)] * 100),
    (50, [(1, 1)] * 100),
    (MOST, [(MOST - at, MOST - at - 1) for at in range(100)]),
    (MOST, [(MOST - at - 1, MOST - at) for at in range(100)]),
    (1000, [(at * 7919 % 101, at * 31 % 97 + 1) for at in range(100)]),
    (300, [(at * at * 37 % 53, at * 17 % 400 + 1) for at in range(99)]),
    (7, [(at % 5, at % 9 + 1) for at in range(100)]),
)


def worth(things, numbers):
    return sum(things[number][0] for number in numbers)


def weight(things, numbers):
    return sum(things[number][1] for number in numbers)


def by_the_words(sack, things):
    """The rule's packing and price, by Python's own fractions."""
    light = [at for at in range(len(things)) if not things[at][1] > sack]
    order = sorted(light, key=lambda at: (-Fraction(*things[at]), at))
    fits = [length for length in range(len(order) + 1) if weight(things, order[:length]) <= sack]
    # Weights are from 1 on, so that what fits is all lengths up to one.
    inside = order[:fits[-1]]
    price = Fraction(0) if inside == order else Fraction(*things[order[len(inside)]])
    single = sorted(light, key=lambda at: (-things[at][0], at))[:1]
    packing = single if worth(things, single) > worth(things, inside) else sorted(inside)
    return (packing, (price.numerator, price.denominator))


def lets_by_the_words(sack, things, packing, price):
    part = Fraction(*price)
    if sorted(set(packing)) != packing or not set(packing) <= set(range(len(things))):
        return False
    if weight(things, packing) > sack or part < 0:
        return False
    above = [max(Fraction(0), own - part * heavy) for own, heavy in things if heavy <= sack]
    return part * sack + sum(above) <= 2 * worth(things, packing)


def packings(sack, things):
    """All packings."""
    some = [list(numbers) for length in range(len(things) + 1)
            for numbers in itertools.combinations(range(len(things)), length)]
    return [numbers for numbers in some if weight(things, numbers) <= sack]


def most_worth(sack, things):
    return max(worth(things, numbers) for numbers in packings(sack, things))


class SacksCase(unittest.TestCase):
    def assert_plain(self, told):
        self.assertIs(type(told), tuple)
        self.assertEqual([type(part) for part in told], [list, tuple])
        self.assertEqual(len(told[1]), 2)
        self.assertTrue(all(type(number) is int for part in told for number in part))


class Packs(SacksCase):
    def assert_told(self, sack, things, packing, price):
        told = pack(sack, things)
        self.assertEqual(told, (packing, price))
        self.assert_plain(told)

    def test_by_hand(self):
        self.assert_told(10, [(3, 5), (4, 3), (5, 4)], [1, 2], (3, 5))
        self.assert_told(10, [(6, 4), (6, 5), (1, 1)], [0, 1, 2], (0, 1))
        self.assert_told(10, [(1, 1), (1, 10), (9, 8)], [0, 2], (1, 10))

    def test_things_too_heavy_by_themselves(self):
        self.assert_told(10, [(100, 11), (1, 10)], [1], (0, 1))
        self.assert_told(10, [(100, 11)], [], (0, 1))
        self.assert_told(10, [(100, 11), (50, MOST), (3, 4)], [2], (0, 1))
        self.assert_told(10, [(100, 11), (2, 6), (3, 5)], [2], (1, 3))

    def test_just_as_heavy_as_the_sack(self):
        self.assert_told(10, [(7, 10)], [0], (0, 1))
        self.assert_told(10, [(7, 10), (1, 1)], [0], (7, 10))
        self.assert_told(10, [(5, 5), (4, 5)], [0, 1], (0, 1))

    def test_by_fractions_not_by_quotients(self):
        self.assert_told(5, [(7, 5), (3, 2), (5, 3)], [1, 2], (7, 5))
        self.assert_told(5, [(3, 2), (5, 3), (8, 5)], [2], (8, 5))
        self.assert_told(MOST, [(MOST - 2, MOST - 1), (MOST - 1, MOST)], [1], (MOST - 2, MOST - 1))
        self.assert_told(MOST, [(MOST - 1, MOST - 2), (MOST, MOST - 1)], [1], (MOST, MOST - 1))

    def test_those_alike_in_order(self):
        self.assert_told(3, [(1, 1), (2, 2), (1, 1)], [0, 1], (1, 1))
        self.assert_told(3, [(2, 2), (3, 3), (1, 1)], [1], (1, 1))
        self.assert_told(4, [(4, 2), (2, 1), (6, 3), (0, 1)], [0, 1], (2, 1))
        self.assert_told(4, [(4, 2), (4, 2), (6, 3)], [0, 1], (2, 1))
        self.assert_told(5, [(4, 4), (1, 1), (2, 1)], [0, 2], (1, 1))

    def test_the_first_that_does_not_fit_ends_it(self):
        self.assert_told(10, [(10, 5), (9, 6), (1, 1)], [0], (3, 2))
        self.assert_told(10, [(10, 5), (8, 6), (1, 5)], [0], (4, 3))
        self.assert_told(10, [(10, 5), (8, 5), (1, 5)], [0, 1], (1, 5))

    def test_the_single_thing_of_the_greatest_worth(self):
        self.assert_told(10, [(2, 1), (10, 10)], [1], (1, 1))
        self.assert_told(10, [(2, 1), (9, 9)], [0, 1], (0, 1))
        self.assert_told(10, [(2, 1), (9, 10), (10, 10)], [2], (1, 1))

    def test_of_several_single_things_the_first(self):
        self.assert_told(10, [(2, 1), (9, 10), (9, 10)], [1], (9, 10))
        self.assert_told(10, [(9, 10), (2, 1), (9, 10)], [0], (9, 10))
        self.assert_told(10, [(3, 1), (5, 10), (5, 9), (5, 10)], [0, 2], (1, 2))
        self.assert_told(100, [(3, 1), (9, 100), (9, 99), (1, 1), (9, 100)], [1], (1, 11))

    def test_the_former_where_both_are_alike(self):
        self.assert_told(10, [(5, 1), (5, 10)], [0], (1, 2))
        self.assert_told(10, [(5, 10), (5, 1)], [1], (1, 2))
        self.assert_told(10, [(3, 1), (2, 1), (5, 9)], [0, 1], (5, 9))
        self.assert_told(10, [(5, 9), (3, 1), (2, 1)], [1, 2], (5, 9))

    def test_price_in_lowest_terms(self):
        self.assert_told(10, [(8, 8), (6, 8)], [0], (3, 4))
        self.assert_told(10, [(9, 1), (10, 10)], [1], (1, 1))
        self.assert_told(10, [(9, 1), (0, 10)], [0], (0, 1))

    def test_no_things(self):
        for sack in (1, 2, MOST):
            self.assert_told(sack, [], [], (0, 1))

    def test_worth_of_nought(self):
        self.assert_told(2, [(0, 1)], [0], (0, 1))
        self.assert_told(2, [(0, 1), (0, 1), (0, 1)], [0, 1], (0, 1))
        self.assert_told(2, [(0, 2), (0, 1), (3, 1)], [2], (0, 1))
        self.assert_told(2, [(0, 3)], [], (0, 1))

    def test_every_small_list(self):
        kinds = [(own, heavy) for own in (0, 1, 2, 3) for heavy in (1, 2, 3, 4)]
        for length in range(4):
            for things in itertools.product(kinds, repeat=length):
                self.assertEqual(pack(3, list(things)), by_the_words(3, things), things)

    def test_larger_lists(self):
        kinds = [(0, 1), (1, 1), (2, 1), (2, 2), (3, 2), (4, 4), (9, 6)]
        for things in itertools.product(kinds, repeat=4):
            for sack in (4, 5):
                self.assertEqual(pack(sack, list(things)), by_the_words(sack, things), things)

    def test_many_things(self):
        for sack, things in LARGE:
            self.assert_told(sack, things, *by_the_words(sack, things))


class Looker(SacksCase):
    def assert_lets(self, sack, things, packing, price):
        self.assertIs(lets_packing(sack, things, packing, price), True)

    def assert_refuses(self, sack, things, packing, price):
        self.assertIs(lets_packing(sack, things, packing, price), False)

    def test_the_rules_own_paper(self):
        for sack, things in LARGE:
            self.assert_lets(sack, things, *pack(sack, things))
        for size in range(2, 1001):
            sack, things, other = worst_packing(size)
            self.assert_lets(sack, things, *pack(sack, things))

    def test_a_number_twice(self):
        things = [(5, 2), (5, 2), (1, 2)]
        self.assert_lets(4, things, [0, 1], (1, 2))
        self.assert_refuses(4, things, [0, 0], (1, 2))
        self.assert_refuses(4, things, [1, 1], (1, 2))

    def test_out_of_order(self):
        things = [(5, 2), (5, 2), (1, 2)]
        self.assert_refuses(4, things, [1, 0], (1, 2))
        self.assert_lets(6, things, [0, 1, 2], (0, 1))
        self.assert_refuses(6, things, [0, 2, 1], (0, 1))

    def test_below_nought_and_beyond(self):
        things = [(5, 2), (5, 2), (1, 2)]
        self.assert_refuses(4, things, [-1, 0], (1, 2))
        self.assert_refuses(4, things, [-2, 0], (1, 2))
        self.assert_refuses(4, things, [0, 3], (1, 2))
        self.assert_refuses(4, things, [0, MOST], (1, 2))
        self.assert_refuses(4, [], [0], (0, 1))

    def test_too_heavy_and_just_as_heavy(self):
        things = [(5, 2), (5, 3), (1, 9)]
        self.assert_lets(5, things, [0, 1], (0, 1))
        self.assert_refuses(4, things, [0, 1], (0, 1))
        self.assert_refuses(8, things, [2], (0, 1))
        self.assert_refuses(8, [(5, 9)], [0], (0, 1))

    def test_price_below_nought(self):
        things = [(5, 2), (5, 2)]
        self.assert_lets(4, things, [0, 1], (0, 1))
        self.assert_refuses(4, things, [0, 1], (-1, 1))
        self.assert_refuses(4, things, [0, 1], (-1, MOST))
        self.assert_refuses(4, [], [], (-1, 1))

    def test_price_too_small_and_just_enough(self):
        # 10 things of worth 2 and weight 1; at a price p from 1 to 2 they are 2 - p above it each.
        things = [(2, 1)] * 10
        packing = [0, 1, 2]
        self.assert_lets(3, things, packing, (2, 1))
        self.assert_lets(3, things, packing, (8, 7))
        self.assert_refuses(3, things, packing, (9, 8))
        self.assert_refuses(3, things, packing, (1, 1))
        self.assert_refuses(3, things, packing, (0, 1))

    def test_price_too_great_and_just_as_great(self):
        things = [(2, 1)] * 10
        self.assert_lets(3, things, [0, 1, 2], (4, 1))
        self.assert_refuses(3, things, [0, 1, 2], (5, 1))
        self.assert_refuses(3, things, [0, 1, 2], (4 * MOST + 1, MOST))

    def test_worth_just_half(self):
        things = [(2, 1), (1, 1), (1, 1)]
        self.assert_lets(2, things, [0], (1, 1))
        self.assert_lets(2, things, [1, 2], (1, 1))
        self.assert_refuses(2, things, [1], (1, 1))
        self.assert_lets(2, things + [(0, 1)], [0, 3], (1, 1))
        self.assert_refuses(2, things, [], (1, 1))

    def test_things_too_heavy_by_themselves_do_not_count(self):
        self.assert_lets(2, [(1, 1), (MOST, 3)], [0], (0, 1))
        self.assert_refuses(2, [(1, 1), (MOST, 2)], [0], (0, 1))
        self.assert_lets(2, [(MOST, 3)], [], (0, 1))

    def test_things_below_the_price_do_not_count(self):
        self.assert_lets(2, [(2, 2), (0, 1), (0, 2)], [0], (2, 1))
        self.assert_refuses(2, [(2, 2), (0, 1), (0, 2)], [0], (5, 2))

    def test_no_things(self):
        self.assert_lets(5, [], [], (0, 1))
        self.assert_refuses(5, [], [], (1, MOST))
        self.assert_refuses(5, [], [], (1, 1))

    def test_fractions_with_large_numbers(self):
        self.assert_lets(MOST, [(MOST, MOST)] * 2, [0], (1, 1))
        self.assert_lets(MOST, [(MOST, MOST)] * 2, [0], (10 ** 30, 10 ** 30 + 1))
        self.assert_lets(MOST, [(MOST, MOST)] * 2, [0], (2 * 10 ** 30 - 1, 10 ** 30))
        self.assert_refuses(MOST, [(MOST, MOST)] * 2, [0], (2 * 10 ** 30 + 1, 10 ** 30))
        self.assert_lets(MOST, [(MOST, MOST)] * 3, [0], (10 ** 30 + 1, 2 * 10 ** 30))
        self.assert_refuses(MOST, [(MOST, MOST)] * 3, [0], (10 ** 30 - 1, 2 * 10 ** 30))

    def test_every_small_paper(self):
        prices = [(-1, 1), (-1, 2), (0, 1), (1, 3), (1, 2), (2, 3), (1, 1), (3, 2), (2, 1), (3, 1)]
        for things in ([], [(1, 1)], [(0, 2)], [(2, 3)], [(2, 1), (1, 1)], [(3, 2), (1, 1), (2, 1)], [(4, 3), (9, 4)]):
            for length in range(4):
                for packing in itertools.product(range(-1, 4), repeat=length):
                    for price in prices:
                        told = lets_packing(3, things, list(packing), price)
                        words = lets_by_the_words(3, things, list(packing), price)
                        self.assertIs(told, words, (things, packing, price))

    def test_what_is_let_by_is_worth_at_least_half(self):
        prices = [(0, 1), (1, 3), (1, 2), (2, 3), (1, 1), (3, 2), (2, 1), (3, 1)]
        let = 0
        for things in itertools.product([(0, 1), (1, 1), (2, 1), (3, 2), (5, 3), (9, 4)], repeat=3):
            most = most_worth(3, things)
            for packing in packings(3, things):
                for price in prices:
                    if lets_packing(3, list(things), packing, price):
                        let += 1
                        self.assertLessEqual(most, 2 * worth(things, packing))
        self.assertGreater(let, 100)


class Factors(SacksCase):
    def test_against_all_packings(self):
        kinds = [(0, 1), (1, 1), (2, 1), (3, 2), (4, 4), (9, 6), (7, 5)]
        for things in itertools.product(kinds, repeat=4):
            packing, price = pack(5, list(things))
            self.assertIn(packing, packings(5, things))
            self.assertLessEqual(most_worth(5, things), 2 * worth(things, packing))
            self.assertIs(lets_packing(5, list(things), packing, price), True)


class Worst(SacksCase):
    def test_for_each_size(self):
        for size in range(2, 1001):
            told = worst_packing(size)
            self.assertIs(type(told), tuple)
            self.assertEqual([type(part) for part in told], [int, list, list])
            sack, things, other = told
            self.assertEqual(sack, 2 * size + 2)
            self.assertEqual(things, [(size + 3, size + 2), (size + 1, size + 1), (size + 1, size + 1)])
            self.assertTrue(all(type(thing) is tuple for thing in things))
            self.assertIn(other, packings(sack, things))
            self.assertEqual(worth(things, other), 2 * size + 2)
            self.assertEqual(worth(things, pack(sack, things)[0]), size + 3)

    def test_smallest_by_hand(self):
        self.assertEqual(worst_packing(2), (6, [(5, 4), (3, 3), (3, 3)], [1, 2]))


class Kept(SacksCase):
    def test_what_is_handed_in_stays(self):
        for sack, things in LARGE:
            before = copy.deepcopy(things)
            packing, price = pack(sack, things)
            paper = copy.deepcopy(packing)
            lets_packing(sack, things, packing, price)
            self.assertEqual(packing, paper)
            self.assertEqual(things, before)

    def test_told_lists_are_the_askers_own(self):
        things = [(5, 2), (5, 2), (1, 2)]
        for sack, packing in ((4, [0, 1]), (1, []), (2, [0])):
            first = pack(sack, things)[0]
            first.append(9)
            self.assertEqual(pack(sack, things)[0], packing)

    def test_told_lists_stay(self):
        things = [(5, 2), (5, 2), (1, 2)]
        told = pack(4, things)
        things.clear()
        pack(4, [(1, 1)])
        self.assertEqual(told, ([0, 1], (1, 2)))

    def test_worst_cases_are_the_askers_own(self):
        before = copy.deepcopy(worst_packing(3))
        sack, things, other = worst_packing(3)
        things.clear()
        other[0] = 9
        self.assertEqual(worst_packing(3), before)


if __name__ == "__main__":
    unittest.main()
