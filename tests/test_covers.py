import copy
import itertools
import unittest

from nearenough.covers import cover_by_price, lets_cover, worst_cover

MOST = 10 ** 12


def all_ties(many):
    return [(one, other) for one in range(many) for other in range(one + 1, many)]


def webs_of(many):
    """Every web of so many points."""
    ties = all_ties(many)
    for length in range(len(ties) + 1):
        for some in itertools.combinations(ties, length):
            yield (many, list(some))


LARGE = (
    (1, []),
    (60, []),
    (60, [(0, 59)]),
    (60, [(point, point + 1) for point in range(59)]),
    (60, all_ties(60)[:400]),
    (60, all_ties(60)[::4][:400]),
    (60, all_ties(60)[-400:]),
    (28, all_ties(28)),
)


def weights_for(many):
    """Several lists of weights for so many points."""
    return (
        [0] * many,
        [1] * many,
        [MOST] * many,
        [MOST if point % 2 else 0 for point in range(many)],
        [MOST - point for point in range(many)],
        [point * 7919 % 101 for point in range(many)],
        [(point * point * 37 + 11) % 13 for point in range(many)],
        [point for point in range(many)],
    )


def left_after(ties, prices, weights, point):
    """What is left of a point's weight behind those prices."""
    return weights[point] - sum(price for tie, price in zip(ties, prices) if point in tie)


def by_the_words(web, weights):
    """The rule's cover and prices, with what is left reckoned anew at each tie."""
    many, ties = web
    prices = []
    for one, other in ties:
        prices.append(min(left_after(ties, prices, weights, one), left_after(ties, prices, weights, other)))
    ends = {end for tie in ties for end in tie}
    return ([point for point in sorted(ends) if left_after(ties, prices, weights, point) == 0], prices)


def covers_of(web):
    """Every cover of a web."""
    many, ties = web
    for length in range(many + 1):
        for some in itertools.combinations(range(many), length):
            if all(set(tie) & set(some) for tie in ties):
                yield list(some)


def weigh(weights, points):
    return sum(weights[point] for point in points)


class CoverCase(unittest.TestCase):
    def assert_plain(self, told):
        self.assertIs(type(told), tuple)
        self.assertEqual([type(part) for part in told], [list, list])
        for part in told:
            self.assertTrue(all(type(number) is int for number in part))


class Rule(CoverCase):
    def assert_told(self, web, weights, cover, prices):
        told = cover_by_price(web, weights)
        self.assert_plain(told)
        self.assertEqual(told, (cover, prices))
        self.assertIs(lets_cover(web, weights, *told), True)

    def test_by_hand(self):
        row = (4, [(0, 1), (1, 2), (2, 3)])
        self.assert_told(row, [1, 1, 1, 1], [0, 1, 2, 3], [1, 0, 1])
        self.assert_told(row, [3, 5, 4, 1], [0, 1, 3], [3, 2, 1])
        self.assert_told(row, [3, 5, 2, 1], [0, 1, 2], [3, 2, 0])
        self.assert_told(row, [5, 3, 5, 9], [1, 2], [3, 0, 5])
        star = (4, [(0, 3), (1, 3), (2, 3)])
        self.assert_told(star, [2, 2, 2, 5], [0, 1, 3], [2, 2, 1])
        self.assert_told(star, [2, 2, 2, 6], [0, 1, 2, 3], [2, 2, 2])
        self.assert_told(star, [2, 2, 2, 7], [0, 1, 2], [2, 2, 2])
        self.assert_told((2, [(0, 1)]), [MOST, MOST - 1], [1], [MOST - 1])

    def test_one_point(self):
        for weight in (0, 1, MOST):
            self.assert_told((1, []), [weight], [], [])

    def test_points_without_a_tie_are_in_no_cover(self):
        self.assert_told((3, []), [0, 0, 0], [], [])
        self.assert_told((60, []), [0] * 60, [], [])
        self.assert_told((5, [(1, 3)]), [0, 2, 0, 2, 0], [1, 3], [2])
        self.assert_told((5, [(1, 3)]), [0, 0, 0, 2, 0], [1], [0])

    def test_weights_of_nought(self):
        self.assert_told((2, [(0, 1)]), [0, 0], [0, 1], [0])
        self.assert_told((3, [(0, 1), (1, 2)]), [0, 5, 0], [0, 2], [0, 0])
        self.assert_told((3, [(0, 1), (1, 2)]), [5, 0, 5], [1], [0, 0])

    def test_ties_in_their_order(self):
        # By the last tie first the covers would be [1, 2], and the prices [1, 2] and [1, 0, 2].
        self.assert_told((3, [(0, 1), (1, 2)]), [2, 3, 2], [0, 1], [2, 1])
        self.assert_told((3, [(0, 1), (0, 2), (1, 2)]), [2, 3, 2], [0, 1], [2, 0, 1])

    def test_every_small_web(self):
        for many in (1, 2, 3):
            for web in webs_of(many):
                for weights in itertools.product((0, 1, 2, 3, MOST), repeat=many):
                    self.assert_told(web, list(weights), *by_the_words(web, weights))
        for web in webs_of(4):
            for weights in itertools.product((0, 1, 3), repeat=4):
                self.assert_told(web, list(weights), *by_the_words(web, weights))

    def test_large_webs(self):
        for web in LARGE:
            for weights in weights_for(web[0]):
                told = cover_by_price(web, weights)
                self.assert_plain(told)
                self.assertTrue(told == by_the_words(web, weights))
                self.assertEqual(len(told[1]), len(web[1]))
                self.assertIs(lets_cover(web, weights, *told), True)

    def test_never_more_than_twice_the_best(self):
        for web in webs_of(4):
            covers = list(covers_of(web))
            for weights in itertools.product((0, 1, 2, 5), repeat=4):
                best = min(weigh(weights, cover) for cover in covers)
                self.assertLessEqual(weigh(weights, cover_by_price(web, list(weights))[0]), 2 * best)


class Looker(CoverCase):
    def lets(self, *paper, web=(4, [(0, 1), (1, 2), (2, 3)]), weights=(3, 5, 4, 1)):
        answer = lets_cover(web, list(weights), *paper)
        self.assertIn(answer, (True, False))
        self.assertIs(type(answer), bool)
        return answer

    def test_papers_of_other_hands(self):
        self.assertTrue(self.lets([0, 1, 3], [3, 2, 1]))
        self.assertTrue(self.lets([1, 2], [3, 2, 1]))
        self.assertTrue(self.lets([1, 3], [3, 0, 1]))
        self.assertTrue(self.lets([0, 1, 2, 3], [3, 2, 2], weights=(3, 5, 4, 2)))

    def test_cover_that_lacks_a_tie(self):
        self.assertFalse(self.lets([], [3, 2, 1]))
        self.assertFalse(self.lets([1], [3, 2, 1]))
        self.assertFalse(self.lets([0, 3], [3, 2, 1]))
        self.assertFalse(self.lets([0, 2], [3, 2, 1], web=(4, [(0, 1), (1, 2), (1, 3)])))

    def test_point_twice(self):
        self.assertTrue(self.lets([1, 3], [3, 2, 1]))
        self.assertFalse(self.lets([1, 1, 3], [3, 2, 1]))
        self.assertFalse(self.lets([1, 3, 3], [3, 2, 1]))
        self.assertFalse(self.lets([1, 3, 1], [3, 2, 1]))

    def test_out_of_order(self):
        self.assertFalse(self.lets([3, 1], [3, 2, 1]))
        self.assertFalse(self.lets([0, 3, 1], [3, 2, 1]))
        self.assertFalse(self.lets([1, 0, 3], [3, 2, 1]))

    def test_points_that_are_none(self):
        self.assertFalse(self.lets([-1, 1, 3], [3, 2, 1]))
        self.assertFalse(self.lets([-3, -1], [3, 2, 1]))
        self.assertFalse(self.lets([-1, 1], [3, 2, 1]))
        self.assertFalse(self.lets([1, 3, 4], [3, 2, 1]))
        self.assertFalse(self.lets([1, 3, 10 ** 20], [3, 2, 1]))
        self.assertFalse(self.lets([-(10 ** 20), 1, 3], [3, 2, 1]))
        self.assertFalse(self.lets([1], [], web=(1, []), weights=(0,)))
        self.assertFalse(self.lets([-1], [], web=(1, []), weights=(0,)))

    def test_prices_too_many_or_too_few(self):
        for prices in ([], [3], [3, 2], [3, 2, 1, 0], [3, 2, 1, 1], [3, 2, 1, 0, 0], [0] * 1000):
            self.assertFalse(self.lets([1, 3], prices))
        self.assertFalse(self.lets([], [0], web=(1, []), weights=(0,)))
        self.assertFalse(self.lets([], [0], web=(60, []), weights=[0] * 60))
        self.assertTrue(self.lets([], [], web=(60, []), weights=[0] * 60))

    def test_price_below_nought(self):
        self.assertTrue(self.lets([1, 3], [3, 0, 1]))
        self.assertFalse(self.lets([1, 3], [3, -1, 1]))
        self.assertFalse(self.lets([1, 3], [-1, 4, 1]))
        self.assertFalse(self.lets([1, 3], [3, 2, -1]))
        self.assertFalse(self.lets([1, 3], [3, -(10 ** 20), 1]))

    def test_too_great_at_one_point(self):
        self.assertTrue(self.lets([1, 3], [3, 2, 1]))
        self.assertFalse(self.lets([1, 3], [4, 0, 1]))
        self.assertFalse(self.lets([1, 3], [3, 3, 1]))
        self.assertFalse(self.lets([1, 3], [2, 2, 2]))
        self.assertTrue(self.lets([1, 3], [0, 4, 0]))
        self.assertTrue(self.lets([1, 3], [0, 3, 1]))
        self.assertFalse(self.lets([1, 3], [0, 4, 1]))
        self.assertFalse(self.lets([0, 1], [2], web=(2, [(0, 1)]), weights=(1, 3)))
        self.assertFalse(self.lets([0, 1], [2], web=(2, [(0, 1)]), weights=(3, 1)))

    def test_just_twice_and_more(self):
        # The cover [0, 1, 2, 3] weighs 12.
        weights = (3, 4, 3, 2)
        self.assertTrue(self.lets([0, 1, 2, 3], [3, 1, 2], weights=weights))
        self.assertFalse(self.lets([0, 1, 2, 3], [3, 0, 2], weights=weights))
        self.assertTrue(self.lets([1, 2], [3, 1, 0], weights=weights))
        self.assertTrue(self.lets([1, 2], [3, 0, 1], weights=weights))
        self.assertFalse(self.lets([1, 2], [3, 0, 0], weights=weights))
        # An odd weight is more than twice its half rounded down.
        self.assertFalse(self.lets([0], [1], web=(2, [(0, 1)]), weights=(3, 9)))
        self.assertTrue(self.lets([0], [2], web=(2, [(0, 1)]), weights=(3, 9)))
        self.assertFalse(self.lets([1], [MOST // 2 - 1], web=(2, [(0, 1)]), weights=(MOST, MOST)))
        self.assertTrue(self.lets([1], [MOST // 2], web=(2, [(0, 1)]), weights=(MOST, MOST)))

    def test_points_without_a_tie(self):
        web = (3, [(0, 1)])
        self.assertTrue(self.lets([0, 2], [2], web=web, weights=(2, 2, 0)))
        self.assertTrue(self.lets([0, 2], [2], web=web, weights=(2, 2, 2)))
        self.assertFalse(self.lets([0, 2], [2], web=web, weights=(2, 2, 3)))

    def test_every_small_paper(self):
        """Each paper is let by just where the words say so, and none of these is worse than told."""
        lists = [list(some) for length in range(4) for some in itertools.product((-1, 0, 1, 2, 3), repeat=length)]
        told = [prices for prices in lists if 3 not in prices]
        by = 0
        for web in webs_of(3):
            covers = list(covers_of(web))
            for weights in ((1, 1, 1), (0, 2, 1), (3, 1, 2)):
                best = min(weigh(weights, cover) for cover in covers)
                fair = [prices for prices in told if len(prices) == len(web[1]) and min(prices, default=0) >= 0
                        and min(left_after(web[1], prices, weights, point) for point in range(3)) >= 0]
                for cover, prices in itertools.product(lists, told):
                    holds = cover in covers and prices in fair and weigh(weights, cover) <= 2 * sum(prices)
                    self.assertIs(lets_cover(web, list(weights), cover, prices), holds)
                    if holds:
                        by += 1
                        self.assertLessEqual(weigh(weights, cover), 2 * best)
        self.assertGreater(by, 100)


class Worst(CoverCase):
    def test_each_size(self):
        for size in range(1, 31):
            with self.subTest(size=size):
                told = worst_cover(size)
                self.assertIs(type(told), tuple)
                web, weights, other = told
                self.assertEqual(web, (2 * size, [(2 * k, 2 * k + 1) for k in range(size)]))
                self.assertIs(type(web), tuple)
                self.assertEqual({type(tie) for tie in web[1]}, {tuple})
                self.assertEqual(weights, [1] * (2 * size))
                self.assert_plain((weights, other))
                self.assertEqual(len(other), size)
                self.assertEqual(sorted(set(other)), other)
                self.assertTrue(all(set(tie) & set(other) for tie in web[1]))
                self.assertTrue(set(other) <= set(range(2 * size)))

    def test_the_rule_there(self):
        for size in range(1, 31):
            web, weights, other = worst_cover(size)
            cover, prices = cover_by_price(web, weights)
            self.assertEqual(cover, list(range(2 * size)))
            self.assertEqual(weigh(weights, cover), 2 * size)
            self.assertEqual(weigh(weights, other), size)
            self.assertIs(lets_cover(web, weights, cover, prices), True)
            self.assertIs(lets_cover(web, weights, other, prices), True)


class Kept(CoverCase):
    def test_what_is_handed_in_stays(self):
        for web in LARGE:
            for weights in weights_for(web[0]):
                before = copy.deepcopy((web, weights))
                cover, prices = cover_by_price(web, weights)
                paper = copy.deepcopy((cover, prices))
                lets_cover(web, weights, cover, prices)
                lets_cover(web, weights, cover[::-1], prices[1:])
                self.assertTrue((web, weights) == before)
                self.assertTrue((cover, prices) == paper)

    def test_told_lists_are_the_askers_own(self):
        web, weights = (4, [(0, 1), (1, 2), (2, 3)]), [3, 5, 4, 1]
        first = cover_by_price(web, weights)
        first[0].append(9)
        first[1][0] = 9
        self.assertEqual(cover_by_price(web, weights), ([0, 1, 3], [3, 2, 1]))
        empty = cover_by_price((2, []), [0, 0])
        empty[0].append(9)
        empty[1].append(9)
        self.assertEqual(cover_by_price((2, []), [0, 0]), ([], []))

    def test_told_lists_stay(self):
        web, weights = (4, [(0, 1), (1, 2), (2, 3)]), [3, 5, 4, 1]
        told = cover_by_price(web, weights)
        weights[0] = 0
        web[1].clear()
        cover_by_price(web, weights)
        self.assertEqual(told, ([0, 1, 3], [3, 2, 1]))

    def test_worst_cases_are_the_askers_own(self):
        web, weights, other = worst_cover(3)
        web[1].clear()
        weights[0] = 9
        other.append(9)
        self.assertEqual(worst_cover(3), ((6, [(0, 1), (2, 3), (4, 5)]), [1] * 6, worst_cover(3)[2]))
        self.assertEqual(len(worst_cover(3)[2]), 3)


if __name__ == "__main__":
    unittest.main()
