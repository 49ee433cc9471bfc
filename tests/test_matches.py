import copy
import itertools
import unittest

from nearenough.matches import lets_match, match_by_weight, worst_match

MOST = 10 ** 12


def all_ties(many):
    return [(one, other) for one in range(many) for other in range(one + 1, many)]


def webs_of(many):
    """Every web of so many points."""
    ties = all_ties(many)
    for length in range(len(ties) + 1):
        for some in itertools.combinations(ties, length):
            yield (many, list(some))


LARGE = (
    (1, []),
    (60, []),
    (60, [(0, 59)]),
    (60, [(point, point + 1) for point in range(59)]),
    (60, all_ties(60)[:400]),
    (60, all_ties(60)[::4][:400]),
    (60, all_ties(60)[-400:]),
    (28, all_ties(28)),
)


def weights_for(many):
    """Several lists of weights for so many ties."""
    return (
        [0] * many,
        [1] * many,
        [MOST] * many,
        [MOST if at % 2 else 0 for at in range(many)],
        [MOST - at for at in range(many)],
        [at for at in range(many)],
        [at * 7919 % 101 for at in range(many)],
        [at % 3 for at in range(many)],
    )


def by_the_words(web, weights):
    """The rule's match and prices, the next tie sought anew each time among those that are free."""
    many, ties = web
    taken = []
    free = dict(enumerate(ties))
    while free:
        heaviest = max(weights[at] for at in free)
        at = min(at for at in free if weights[at] == heaviest)
        taken.append(at)
        free = {number: tie for number, tie in free.items() if not set(tie) & set(ties[at])}
    prices = [sum(weights[at] for at in taken if point in ties[at]) for point in range(many)]
    return (sorted(taken), prices)


def matches_of(web):
    """Every match of a web."""
    ties = web[1]
    for length in range(len(ties) + 1):
        for some in itertools.combinations(range(len(ties)), length):
            if len({end for at in some for end in ties[at]}) == 2 * length:
                yield list(some)


def weigh(weights, numbers):
    return sum(weights[at] for at in numbers)


class MatchCase(unittest.TestCase):
    def assert_plain(self, told):
        self.assertIs(type(told), tuple)
        self.assertEqual([type(part) for part in told], [list, list])
        for part in told:
            self.assertTrue(all(type(number) is int for number in part))


class Rule(MatchCase):
    def assert_told(self, web, weights, match, prices):
        told = match_by_weight(web, weights)
        self.assert_plain(told)
        self.assertEqual(told, (match, prices))
        self.assertIs(lets_match(web, weights, *told), True)

    def test_by_hand(self):
        row = (4, [(0, 1), (1, 2), (2, 3)])
        self.assert_told(row, [2, 3, 2], [1], [0, 3, 3, 0])
        self.assert_told(row, [3, 2, 4], [0, 2], [3, 3, 4, 4])
        self.assert_told(row, [1, MOST, MOST - 1], [1], [0, MOST, MOST, 0])
        square = (4, [(0, 1), (0, 3), (1, 2), (2, 3)])
        self.assert_told(square, [1, 5, 4, 2], [1, 2], [5, 4, 4, 5])
        self.assert_told(square, [1, 4, 2, 5], [0, 3], [1, 1, 5, 5])

    def test_one_point_and_no_tie(self):
        self.assert_told((1, []), [], [], [0])
        self.assert_told((60, []), [], [], [0] * 60)

    def test_falling_weight(self):
        # By rising weight, or in their order, the first tie would be taken.
        self.assert_told((3, [(0, 1), (1, 2)]), [1, 2], [1], [0, 2, 2])
        self.assert_told((3, [(0, 1), (1, 2)]), [2, 1], [0], [2, 2, 0])

    def test_match_rises_whatever_was_taken_first(self):
        self.assert_told((6, [(0, 1), (2, 3), (4, 5)]), [1, 2, 3], [0, 1, 2], [1, 1, 2, 2, 3, 3])
        self.assert_told((6, [(0, 1), (2, 3), (4, 5)]), [2, 3, 1], [0, 1, 2], [2, 2, 3, 3, 1, 1])

    def test_ties_of_one_weight_in_their_order(self):
        row = (4, [(0, 1), (1, 2), (2, 3)])
        self.assert_told(row, [2, 2, 2], [0, 2], [2, 2, 2, 2])
        self.assert_told(row, [1, 2, 2], [1], [0, 2, 2, 0])
        self.assert_told(row, [2, 2, 1], [0, 2], [2, 2, 1, 1])
        self.assert_told((4, [(0, 1), (0, 2), (0, 3)]), [7, 7, 7], [0], [7, 7, 0, 0])
        self.assert_told((4, [(0, 3), (1, 3), (2, 3)]), [6, 7, 7], [1], [0, 7, 0, 7])

    def test_weights_of_nought(self):
        self.assert_told((2, [(0, 1)]), [0], [0], [0, 0])
        self.assert_told((3, [(0, 1), (0, 2)]), [0, 0], [0], [0, 0, 0])
        self.assert_told((5, [(0, 1), (1, 2), (3, 4)]), [0, 5, 0], [1, 2], [0, 5, 5, 0, 0])
        # A taken tie of weight 0 keeps its ends from others of weight 0.
        self.assert_told((4, [(0, 1), (1, 2), (2, 3)]), [0, 0, 0], [0, 2], [0, 0, 0, 0])

    def test_every_small_web(self):
        for many in (1, 2, 3):
            for web in webs_of(many):
                for weights in itertools.product((0, 1, 2, MOST), repeat=len(web[1])):
                    self.assert_told(web, list(weights), *by_the_words(web, weights))
        for web in webs_of(4):
            for weights in itertools.product((0, 1, 2), repeat=len(web[1])):
                self.assert_told(web, list(weights), *by_the_words(web, weights))

    def test_large_webs(self):
        for web in LARGE:
            for weights in weights_for(len(web[1])):
                told = match_by_weight(web, weights)
                self.assert_plain(told)
                self.assertTrue(told == by_the_words(web, weights))
                self.assertEqual(len(told[1]), web[0])
                self.assertIs(lets_match(web, weights, *told), True)

    def test_never_less_than_half_the_best(self):
        for web in webs_of(4):
            matches = list(matches_of(web))
            for weights in itertools.product((0, 2, 3), repeat=len(web[1])):
                best = max(weigh(weights, match) for match in matches)
                self.assertLessEqual(best, 2 * weigh(weights, match_by_weight(web, list(weights))[0]))


class Looker(MatchCase):
    def lets(self, *paper, web=(4, [(0, 1), (1, 2), (2, 3)]), weights=(3, 4, 2)):
        answer = lets_match(web, list(weights), *paper)
        self.assertIs(type(answer), bool)
        return answer

    def test_papers_of_other_hands(self):
        self.assertTrue(self.lets([1], [0, 4, 4, 0]))
        self.assertTrue(self.lets([0, 2], [0, 3, 2, 0]))
        self.assertTrue(self.lets([0, 2], [3, 3, 2, 2]))
        self.assertTrue(self.lets([1], [1, 2, 2, 0]))
        self.assertTrue(self.lets([0], [0, 4, 2, 0]))

    def test_numbers_that_are_no_tie(self):
        self.assertFalse(self.lets([0, 3], [0, 4, 2, 0]))
        self.assertFalse(self.lets([1, 3], [0, 4, 2, 0]))
        self.assertFalse(self.lets([0, 2, 10 ** 20], [0, 4, 2, 0]))
        self.assertFalse(self.lets([0], [0], web=(1, []), weights=()))
        self.assertFalse(self.lets([-1], [0], web=(1, []), weights=()))

    def test_number_below_nought(self):
        self.assertFalse(self.lets([-1], [0, 4, 2, 0]))
        self.assertFalse(self.lets([-2], [0, 4, 2, 0]))
        self.assertFalse(self.lets([-1, 0], [0, 4, 2, 0]))
        self.assertFalse(self.lets([-(10 ** 20), 1], [0, 4, 2, 0]))

    def test_number_twice(self):
        self.assertTrue(self.lets([0], [0, 4, 2, 0]))
        self.assertFalse(self.lets([0, 0], [0, 4, 2, 0]))
        self.assertFalse(self.lets([0, 2, 2], [0, 4, 2, 0]))
        self.assertFalse(self.lets([0, 2, 0], [0, 4, 2, 0]))

    def test_out_of_order(self):
        self.assertTrue(self.lets([0, 2], [0, 4, 2, 0]))
        self.assertFalse(self.lets([2, 0], [0, 4, 2, 0]))

    def test_ends_in_common(self):
        self.assertFalse(self.lets([0, 1], [0, 4, 2, 0]))
        self.assertFalse(self.lets([1, 2], [0, 4, 2, 0]))
        self.assertFalse(self.lets([0, 1, 2], [0, 4, 2, 0]))
        fan = (4, [(0, 1), (0, 2), (1, 3), (2, 3)])
        self.assertTrue(self.lets([1, 2], [1, 1, 1, 1], web=fan, weights=(1, 1, 1, 1)))
        self.assertTrue(self.lets([0, 3], [1, 1, 1, 1], web=fan, weights=(1, 1, 1, 1)))
        for match in ([0, 1], [0, 2], [1, 3], [2, 3]):
            self.assertFalse(self.lets(match, [1, 1, 1, 1], web=fan, weights=(1, 1, 1, 1)))

    def test_prices_too_many_or_too_few(self):
        for prices in ([], [0], [0, 4], [0, 4, 2], [0, 4, 2, 0, 0], [0, 4, 2, 0, 0, 0], [0] * 1000):
            self.assertFalse(self.lets([0, 2], prices))
        self.assertTrue(self.lets([], [0], web=(1, []), weights=()))
        self.assertFalse(self.lets([], [], web=(1, []), weights=()))
        self.assertFalse(self.lets([], [0, 0], web=(1, []), weights=()))
        self.assertFalse(self.lets([], [0] * 59, web=(60, []), weights=()))

    def test_price_below_nought(self):
        self.assertTrue(self.lets([0, 2], [0, 4, 2, 0]))
        self.assertFalse(self.lets([0, 2], [-1, 4, 2, 0]))
        self.assertFalse(self.lets([0, 2], [0, 4, 3, -1]))
        self.assertFalse(self.lets([0, 2], [0, 5, -1, 3]))
        self.assertFalse(self.lets([0, 2], [4, -1, 5, 0]))
        self.assertFalse(self.lets([], [-1], web=(1, []), weights=()))

    def test_too_small_at_one_tie(self):
        self.assertTrue(self.lets([0, 2], [0, 3, 1, 1]))
        self.assertFalse(self.lets([0, 2], [0, 2, 2, 1]))
        self.assertFalse(self.lets([0, 2], [0, 3, 0, 2]))
        self.assertFalse(self.lets([0, 2], [0, 3, 1, 0]))
        self.assertFalse(self.lets([0, 2], [0, 0, 0, 0]))
        self.assertTrue(self.lets([0], [MOST, 0], web=(2, [(0, 1)]), weights=(MOST,)))
        self.assertFalse(self.lets([0], [MOST - 1, 0], web=(2, [(0, 1)]), weights=(MOST,)))

    def test_just_twice_and_more(self):
        self.assertTrue(self.lets([1], [0, 4, 4, 0]))
        self.assertFalse(self.lets([1], [1, 4, 4, 0]))
        self.assertFalse(self.lets([1], [0, 4, 4, 1]))
        self.assertTrue(self.lets([0], [0, 3, 2, 0]))
        self.assertTrue(self.lets([0], [0, 3, 2, 1]))
        self.assertFalse(self.lets([0], [0, 3, 2, 2]))
        self.assertFalse(self.lets([2], [0, 3, 2, 0]))
        self.assertFalse(self.lets([], [0, 3, 2, 0]))
        self.assertTrue(self.lets([], [0, 0, 0, 0], weights=(0, 0, 0)))
        self.assertTrue(self.lets([1], [0, 0, 0, 0], weights=(0, 0, 0)))
        self.assertFalse(self.lets([1], [0, 0, 0, 1], weights=(0, 0, 0)))

    def test_every_small_paper(self):
        """Each paper is let by just where the words say so, and none of these is worse than told."""
        lists = [list(some) for length in range(4) for some in itertools.product((-1, 0, 1, 2, 3), repeat=length)]
        by = 0
        for web in webs_of(3):
            matches = list(matches_of(web))
            for weights in ((1, 1, 1), (0, 2, 1), (3, 1, 2)):
                best = max(weigh(weights, match) for match in matches)
                enough = [prices for prices in lists if len(prices) == 3 and min(prices) >= 0
                          and all(prices[a] + prices[b] >= weight for (a, b), weight in zip(web[1], weights))]
                for match, prices in itertools.product(lists, lists):
                    holds = match in matches and prices in enough and sum(prices) <= 2 * weigh(weights, match)
                    self.assertIs(lets_match(web, list(weights[:len(web[1])]), match, prices), holds)
                    if holds:
                        by += 1
                        self.assertLessEqual(best, 2 * weigh(weights, match))
        self.assertGreater(by, 100)


class Worst(MatchCase):
    def test_each_size(self):
        for size in range(1, 16):
            with self.subTest(size=size):
                told = worst_match(size)
                self.assertIs(type(told), tuple)
                web, weights, other = told
                ties = [tie for k in range(size)
                        for tie in ((4 * k, 4 * k + 1), (4 * k, 4 * k + 2), (4 * k + 1, 4 * k + 3))]
                self.assertEqual(web, (4 * size, ties))
                self.assertEqual(ties, sorted(ties))
                self.assertIs(type(web), tuple)
                self.assertEqual({type(tie) for tie in web[1]}, {tuple})
                self.assertEqual(weights, [1] * (3 * size))
                self.assert_plain((weights, other))
                self.assertEqual(len(other), 2 * size)
                self.assertEqual(sorted(set(other)), other)
                self.assertTrue(set(other) <= set(range(3 * size)))
                self.assertEqual(len({end for at in other for end in ties[at]}), 4 * size)

    def test_the_rule_there(self):
        for size in range(1, 16):
            web, weights, other = worst_match(size)
            match, prices = match_by_weight(web, weights)
            self.assertEqual(match, [3 * k for k in range(size)])
            self.assertEqual(prices, [1, 1, 0, 0] * size)
            self.assertIs(lets_match(web, weights, match, prices), True)
            self.assertIs(lets_match(web, weights, other, prices), True)


class Kept(MatchCase):
    def test_what_is_handed_in_stays(self):
        for web in LARGE:
            for weights in weights_for(len(web[1])):
                before = copy.deepcopy((web, weights))
                match, prices = match_by_weight(web, weights)
                paper = copy.deepcopy((match, prices))
                lets_match(web, weights, match, prices)
                lets_match(web, weights, match[::-1], prices[1:])
                self.assertTrue((web, weights) == before)
                self.assertTrue((match, prices) == paper)

    def test_told_lists_are_the_askers_own(self):
        web, weights = (4, [(0, 1), (1, 2), (2, 3)]), [3, 2, 4]
        first = match_by_weight(web, weights)
        first[0].append(9)
        first[1][0] = 9
        self.assertEqual(match_by_weight(web, weights), ([0, 2], [3, 3, 4, 4]))
        empty = match_by_weight((2, []), [])
        empty[0].append(9)
        empty[1][0] = 9
        self.assertEqual(match_by_weight((2, []), []), ([], [0, 0]))

    def test_told_lists_stay(self):
        web, weights = (4, [(0, 1), (1, 2), (2, 3)]), [3, 2, 4]
        told = match_by_weight(web, weights)
        weights[1] = 9
        match_by_weight(web, weights)
        web[1].clear()
        match_by_weight(web, [])
        self.assertEqual(told, ([0, 2], [3, 3, 4, 4]))

    def test_worst_cases_are_the_askers_own(self):
        before = copy.deepcopy(worst_match(2))
        web, weights, other = worst_match(2)
        web[1].clear()
        weights[0] = 9
        other.append(9)
        self.assertEqual(worst_match(2), before)


if __name__ == "__main__":
    unittest.main()
