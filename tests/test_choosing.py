import copy
import itertools
import unittest
from fractions import Fraction

from nearenough.choosing import choose_by_new, lets_choice, worst_choice
from nearenough.errors import Lacking, NearError


def pair(part):
    return (part.numerator, part.denominator)


def pairs(*parts):
    """Fractions as tuples, of numbers or of texts such as 1/2."""
    return [pair(Fraction(part)) for part in parts]


def harmonic_number(many):
    return sum((Fraction(1, step) for step in range(1, many + 1)), Fraction(0))


def families(many, length):
    """All lists of so many sets out of all those of so many things."""
    things = [list(some) for size in range(many + 1) for some in itertools.combinations(range(many), size)]
    return [list(some) for some in itertools.product(things, repeat=length)]


def spread(many, sets):
    """So many sets of so many things, with the first thing of all in the last one."""
    told = [[thing for thing in range(many) if (thing * thing * 31 + thing * at * 17 + at) % (at % 11 + 2) == 0]
            for at in range(sets - 1)]
    return told + [[thing for thing in range(many) if not any(thing in things for things in told)] or [0]]


LARGE = (
    (1, [[0]]),
    (1, [[]] * 59 + [[0]]),
    (1, [[0]] * 60),
    (200, [list(range(200))]),
    (200, [list(range(200))] * 60),
    (200, [[thing] for thing in range(59)] + [list(range(59, 200))]),
    (200, [list(range(at, 200, 60)) for at in range(60)]),
    (200, [list(range(at, min(at + 9, 200))) for at in range(0, 200, 5)]),
    (200, spread(200, 60)),
    (137, spread(137, 41)),
    (60, [[thing] for thing in range(60)]),
)


def by_the_words(many, sets):
    """The rule's choice and shares, by how many things are new in each set."""
    left = set(range(many))
    shares = [None] * many
    choice = []
    while left:
        new = [left & set(things) for things in sets]
        best = sorted(range(len(sets)), key=lambda at: (-len(new[at]), at))[0]
        for thing in new[best]:
            shares[thing] = (1, len(new[best]))
        left -= new[best]
        choice.append(best)
    return (choice, shares)


def fewest(many, sets):
    """The fewest sets that together have all things."""
    for length in range(len(sets) + 1):
        for some in itertools.combinations(sets, length):
            if set().union(*some) == set(range(many)):
                return length


class ChoiceCase(unittest.TestCase):
    def assert_plain(self, told):
        self.assertIs(type(told), tuple)
        self.assertEqual([type(part) for part in told], [list, list])
        self.assertTrue(all(type(number) is int for number in told[0]))
        for share in told[1]:
            self.assertIs(type(share), tuple)
            self.assertEqual([type(number) for number in share], [int, int])


class Refused(ChoiceCase):
    def assert_lacking(self, many, sets, thing):
        before = copy.deepcopy(sets)
        with self.assertRaises(NearError) as held:
            choose_by_new(many, sets)
        self.assertIs(type(held.exception), Lacking)
        self.assertEqual(held.exception.thing, thing)
        self.assertIs(type(held.exception.thing), int)
        self.assertEqual(sets, before)

    def test_one_is_lacking(self):
        self.assert_lacking(3, [[1, 2]], 0)
        self.assert_lacking(3, [[0, 2]], 1)
        self.assert_lacking(3, [[0, 1]], 2)
        self.assert_lacking(3, [[0], [2], [0, 2]], 1)
        self.assert_lacking(200, [list(range(199))] * 60, 199)
        self.assert_lacking(200, [list(range(1, 200))], 0)

    def test_several_are_lacking(self):
        self.assert_lacking(4, [[0, 2]], 1)
        self.assert_lacking(4, [[2], [0]], 1)
        self.assert_lacking(4, [[0, 1]], 2)
        self.assert_lacking(4, [[3]], 0)
        self.assert_lacking(200, [list(range(0, 100)), list(range(150, 200))], 100)

    def test_sets_without_any_thing(self):
        self.assert_lacking(1, [[]], 0)
        self.assert_lacking(200, [[]] * 60, 0)
        self.assert_lacking(3, [[], [0, 1], []], 2)

    def test_every_small_family(self):
        for sets in families(3, 2):
            lacking = sorted({0, 1, 2} - set(sets[0]) - set(sets[1]))
            if lacking:
                self.assert_lacking(3, sets, lacking[0])
            else:
                choose_by_new(3, sets)


class Rule(ChoiceCase):
    def assert_told(self, many, sets, choice, shares):
        told = choose_by_new(many, sets)
        self.assert_plain(told)
        self.assertEqual(told, (choice, shares))
        self.assertIs(lets_choice(many, sets, *told), True)

    def test_by_hand(self):
        self.assert_told(1, [[0]], [0], [(1, 1)])
        self.assert_told(4, [[0], [1, 2, 3], [0, 1]], [1, 0], [(1, 1), (1, 3), (1, 3), (1, 3)])
        self.assert_told(5, [[0, 1], [1, 2, 3], [3, 4], [0, 4]], [1, 3], pairs("1/2", "1/3", "1/3", "1/3", "1/2"))

    def test_most_new_things_not_most_things(self):
        sets = [[0, 1, 2, 3], [0, 1, 2], [4, 5]]
        self.assert_told(6, sets, [0, 2], pairs("1/4", "1/4", "1/4", "1/4", "1/2", "1/2"))
        sets = [[0, 1, 2, 4], [0, 1, 2, 3, 5], [4, 6]]
        self.assert_told(7, sets, [1, 2], pairs("1/5", "1/5", "1/5", "1/5", "1/2", "1/5", "1/2"))

    def test_of_several_the_first(self):
        self.assert_told(2, [[0, 1], [0, 1]], [0], pairs("1/2", "1/2"))
        self.assert_told(2, [[1], [0], [1]], [0, 1], pairs(1, 1))
        self.assert_told(3, [[2], [1, 2], [0, 1], [0]], [1, 2], pairs(1, "1/2", "1/2"))

    def test_sets_without_any_thing(self):
        self.assert_told(1, [[], [], [0]], [2], [(1, 1)])
        self.assert_told(2, [[], [1], [], [0], []], [1, 3], pairs(1, 1))

    def test_shares_of_each_thing(self):
        sets = [[9], [0, 2, 4, 6, 8], [1, 3, 5], [7]]
        half = ["1/5", "1/3", "1/5", "1/3", "1/5", "1/3", "1/5", 1, "1/5", 1]
        self.assert_told(10, sets, [1, 2, 0, 3], pairs(*half))

    def test_every_small_family(self):
        for many, length in ((1, 1), (1, 3), (2, 3), (3, 3)):
            for sets in families(many, length):
                if set().union(*sets) == set(range(many)):
                    self.assert_told(many, sets, *by_the_words(many, sets))

    def test_large_families(self):
        for many, sets in LARGE:
            told = choose_by_new(many, sets)
            self.assert_plain(told)
            self.assertTrue(told == by_the_words(many, sets))
            self.assertEqual(len(told[1]), many)
            self.assertIs(lets_choice(many, sets, *told), True)

    def test_never_more_than_the_factor(self):
        for sets in families(4, 3)[::3]:
            if set().union(*sets) == set(range(4)):
                most = harmonic_number(max(len(things) for things in sets))
                self.assertLessEqual(len(choose_by_new(4, sets)[0]), most * fewest(4, sets))


class Looker(ChoiceCase):
    sets = [[0, 1], [2], [1, 2], [0]]

    def lets(self, choice, shares, many=3, sets=sets):
        answer = lets_choice(many, sets, choice, shares)
        self.assertIs(type(answer), bool)
        return answer

    def test_papers_of_other_hands(self):
        self.assertTrue(self.lets([0, 1], pairs("1/2", "1/2", 1)))
        self.assertTrue(self.lets([1, 0], pairs("1/2", "1/2", 1)))
        self.assertTrue(self.lets([3, 2], pairs(1, "1/2", "1/2")))
        self.assertTrue(self.lets([0, 2], pairs("2/3", "2/3", "2/3")))
        self.assertTrue(self.lets([0, 1], pairs(1, 0, 1)))

    def test_number_twice(self):
        shares = pairs("1/2", "1/2", 1)
        self.assertFalse(self.lets([0, 0], shares))
        self.assertFalse(self.lets([0, 0, 1], shares))
        self.assertFalse(self.lets([0, 1, 1], shares))
        self.assertFalse(self.lets([0, 1, 0], shares))
        self.assertFalse(self.lets([0, 0], pairs(1, 1), 2, [[0, 1], [0], [1]]))
        # All else would be as told: the harmonic number of 4 is above 2, and that of 11 above 3.
        whole = [[0, 1, 2, 3], [], [1]]
        self.assertTrue(self.lets([0, 1], pairs("1/2", "1/2", "1/2", "1/2"), 4, whole))
        self.assertFalse(self.lets([0, 0], pairs("1/2", "1/2", "1/2", "1/2"), 4, whole))
        eleven = [list(range(11)), []]
        self.assertFalse(self.lets([0, 1, 0], pairs(*["3/11"] * 11), 11, eleven))
        self.assertFalse(self.lets([0, 1, 1], pairs(*["3/11"] * 11), 11, eleven))
        self.assertTrue(self.lets([0, 1], pairs(*["2/11"] * 11), 11, eleven))

    def test_numbers_that_are_no_set(self):
        shares = pairs("1/2", "1/2", 1)
        for number in (-1, -2, -4, 4, 5, 10 ** 20, -(10 ** 20)):
            self.assertFalse(self.lets([0, number], shares))
            self.assertFalse(self.lets([number, 1], shares))
            self.assertFalse(self.lets([0, number, 1], shares))
        self.assertFalse(self.lets([1], [(1, 1)], 1, [[0]]))
        self.assertFalse(self.lets([-1], [(1, 1)], 1, [[0]]))
        self.assertFalse(self.lets([0, 1], [(1, 1)], 1, [[0]]))

    def test_choice_that_lacks_a_thing(self):
        shares = pairs("1/2", "1/2", 1)
        for choice in ([], [0], [1], [2], [1, 2], [0, 3], [1, 3]):
            self.assertFalse(self.lets(choice, shares))
        self.assertFalse(self.lets([], [(0, 1)], 1, [[0]]))
        self.assertFalse(self.lets([1], [(1, 1)], 1, [[0], []]))

    def test_shares_too_many_or_too_few(self):
        for shares in ([], pairs(2), pairs(1, 1), pairs("1/2", "1/2", 1, 0), pairs("1/2", "1/2", "1/2", "1/2"),
                       pairs(*["1/2"] * 100)):
            self.assertFalse(self.lets([0, 1], shares))
        self.assertFalse(self.lets([0], [], 1, [[0]]))
        self.assertFalse(self.lets([0], pairs("1/2", "1/2"), 1, [[0]]))
        self.assertFalse(self.lets([0], pairs(1, 0), 1, [[0]]))

    def test_share_below_nought(self):
        self.assertFalse(self.lets([0, 1], pairs("-1/2", "3/2", 1)))
        self.assertFalse(self.lets([0, 1], pairs("3/2", "-1/2", 1)))
        self.assertFalse(self.lets([0, 1], pairs(1, "-1/1000000", "1000001/1000000")))
        self.assertFalse(self.lets([0], pairs(1, 1, -1), 3, [[0, 1, 2], [2]]))
        self.assertTrue(self.lets([0], pairs(1, 0, 0), 3, [[0, 1, 2], [2]]))

    def test_together_more_or_less_than_sets(self):
        self.assertTrue(self.lets([0, 1], pairs("1/2", "1/2", 1)))
        self.assertFalse(self.lets([0, 1], pairs("1/2", "1/2", "1/2")))
        self.assertFalse(self.lets([0, 1], pairs("1/2", "1/2", "999999/1000000")))
        self.assertFalse(self.lets([0, 1], pairs("500001/1000000", "1/2", 1)))
        self.assertFalse(self.lets([0, 1], pairs(1, "1/2", 1)))
        self.assertFalse(self.lets([0, 1], pairs(0, 0, 0)))
        self.assertFalse(self.lets([0, 1, 3], pairs("1/2", "1/2", 1)))
        self.assertFalse(self.lets([0, 1, 2, 3], pairs("1/2", "1/2", 1)))
        self.assertFalse(self.lets([0], pairs("1/3", "1/3", "1/4"), 3, [[0, 1, 2]]))

    def test_set_beyond_its_harmonic_number(self):
        sets = [[0, 1], [2], [3]]
        self.assertTrue(self.lets([0, 1, 2], pairs(1, "1/2", "1/2", 1), 4, sets))
        self.assertTrue(self.lets([0, 1, 2], pairs("3/4", "3/4", "1/2", 1), 4, sets))
        self.assertFalse(self.lets([0, 1, 2], pairs("3/4", "3/4", "1/4", "5/4"), 4, sets))
        self.assertFalse(self.lets([0, 1, 2], pairs(1, "501/1000", "499/1000", 1), 4, sets))
        self.assertFalse(self.lets([0, 1, 2], pairs("1/2", "1/2", "1001/1000", "999/1000"), 4, sets))
        self.assertFalse(self.lets([0, 1, 2], pairs("1/2", "1/2", "999/1000", "1001/1000"), 4, sets))

    def test_just_the_harmonic_number(self):
        # The harmonic number of 3 is 11/6; the set of three, which isn't chosen, has just it, then more.
        sets = [[0], [1, 2], [0, 1, 2], [3, 4]]
        self.assertTrue(self.lets([0, 1, 3], pairs("5/6", "1/2", "1/2", "7/12", "7/12"), 5, sets))
        self.assertFalse(self.lets([0, 1, 3], pairs("5/6", "1/2", "501/1000", "7/12", "1747/3000"), 5, sets))

    def test_sets_without_any_thing(self):
        self.assertTrue(self.lets([1], [(1, 1)], 1, [[], [0]]))
        self.assertFalse(self.lets([0, 1], [(1, 1)], 1, [[], [0]]))
        self.assertFalse(self.lets([0, 1], [(2, 1)], 1, [[], [0]]))
        # One may be chosen where the shares of the others bear it: the harmonic number of 4 is above 2.
        self.assertTrue(self.lets([0, 1], pairs("2/3", "2/3", "2/3", 0), 4, [[], [0, 1, 2, 3]]))
        self.assertFalse(self.lets([0, 1], pairs("1/3", "1/3", "1/3", 0), 4, [[], [0, 1, 2, 3]]))
        self.assertFalse(self.lets([0, 1], pairs("2/3", "2/3", "2/3"), 3, [[], [0, 1, 2]]))

    def test_sets_that_lack_a_thing(self):
        self.assertFalse(self.lets([0], [(1, 1)], 1, [[]]))
        self.assertFalse(self.lets([], [(0, 1)], 1, [[]]))
        self.assertFalse(self.lets([0], pairs("1/2", "1/2"), 2, [[0]]))
        self.assertFalse(self.lets([0, 1], pairs(1, 1, 0), 3, [[0], [2]]))
        self.assertFalse(self.lets([0, 1], pairs(1, 0, 1), 3, [[0], [2], [0, 2]]))

    def test_fractions_of_any_size(self):
        many = 200
        shares = []
        for at in range(100):
            bottom = 10 ** 12 + 2 * at + 1
            shares += [Fraction(at, 100 * bottom), Fraction(bottom - at, 100 * bottom)]
        self.assertEqual(sum(shares), 1)
        sets = [list(range(many))] + [list(range(at, many)) for at in range(59)]
        self.assertTrue(self.lets([0], pairs(*shares), many, sets))
        self.assertFalse(self.lets([0], pairs(*shares[:-1], shares[-1] + Fraction(1, 10 ** 40)), many, sets))
        self.assertFalse(self.lets([0], pairs(*shares[:-1], shares[-1] - Fraction(1, 10 ** 40)), many, sets))
        self.assertFalse(self.lets([0], pairs(10 ** 40, *shares[1:]), many, sets))
        self.assertFalse(self.lets([0], pairs(-(10 ** 40), *shares[1:]), many, sets))

    def test_every_small_paper(self):
        """Each paper is let by just where the words say so, and none of these is worse than told."""
        choices = [list(some) for length in range(4) for some in itertools.product((-1, 0, 1, 2, 3), repeat=length)]
        parts = [Fraction(top, 4) for top in (-1, 0, 2, 3, 4, 6)]
        papers = [list(some) for length in (1, 2, 3) for some in itertools.product(parts, repeat=length)]
        for sets in ([[0, 1], [0], [1]], [[], [0, 1], [1]], [[0], [1], [1]], [[0], [0], []]):
            factor = harmonic_number(max(len(things) for things in sets))
            best = fewest(2, sets)
            fair = [shares for shares in papers if len(shares) == 2 and min(shares) >= 0 and all(
                sum(shares[thing] for thing in things) <= harmonic_number(len(things)) for things in sets)]
            self.assertGreater(len(fair), 5)
            for choice in choices:
                good = self.is_choice(2, sets, choice)
                for shares in papers:
                    holds = good and shares in fair and sum(shares) == len(choice)
                    self.assertIs(lets_choice(2, sets, choice, pairs(*shares)), holds)
                    if holds:
                        self.assertLessEqual(len(choice), factor * best)

    def is_choice(self, many, sets, choice):
        if len(set(choice)) < len(choice) or not set(choice) <= set(range(len(sets))):
            return False
        return set().union(*[sets[number] for number in choice]) == set(range(many))


class Worst(ChoiceCase):
    def test_each_size(self):
        for size in range(3, 7):
            with self.subTest(size=size):
                told = worst_choice(size)
                self.assertIs(type(told), tuple)
                self.assertEqual([type(part) for part in told], [int, list, list])
                many, sets, other = told
                self.assertEqual(many, 2 * (2 ** size - 1))
                self.assertEqual({type(things) for things in sets}, {list})
                self.assertEqual({type(thing) for things in sets for thing in things}, {int})
                self.assertEqual([len(things) for things in sets[:size]], [2 ** k for k in range(size, 0, -1)])
                self.assertEqual([thing for things in sets[:size] for thing in things], list(range(many)))
                evens = [thing for thing in range(many) if thing % 2 == 0]
                odds = [thing for thing in range(many) if thing % 2 == 1]
                self.assertEqual(sets[size:], [evens, odds])
                self.assertEqual(sorted(other), [size, size + 1])
                self.assertEqual({type(number) for number in other}, {int})

    def test_smallest_by_hand(self):
        many, sets, other = worst_choice(3)
        self.assertEqual(many, 14)
        self.assertEqual(sets, [
            [0, 1, 2, 3, 4, 5, 6, 7], [8, 9, 10, 11], [12, 13], [0, 2, 4, 6, 8, 10, 12], [1, 3, 5, 7, 9, 11, 13]])
        self.assertEqual(sorted(other), [3, 4])

    def test_the_rule_there(self):
        for size in range(3, 7):
            many, sets, other = worst_choice(size)
            choice, shares = choose_by_new(many, sets)
            self.assertEqual(choice, list(range(size)))
            self.assertIs(lets_choice(many, sets, choice, shares), True)
            self.assertIs(lets_choice(many, sets, other, [(1, 2 ** size - 1)] * many), True)


class Kept(ChoiceCase):
    def test_what_is_handed_in_stays(self):
        for many, sets in LARGE:
            before = copy.deepcopy(sets)
            choice, shares = choose_by_new(many, sets)
            paper = copy.deepcopy((choice, shares))
            lets_choice(many, sets, choice, shares)
            lets_choice(many, sets, choice[::-1], shares[1:])
            self.assertTrue(sets == before)
            self.assertTrue((choice, shares) == paper)

    def test_told_lists_are_the_askers_own(self):
        sets = [[0], [1, 2], [1]]
        first = choose_by_new(3, sets)
        first[0].append(9)
        first[1][0] = 9
        self.assertEqual(choose_by_new(3, sets), ([1, 0], [(1, 1), (1, 2), (1, 2)]))

    def test_told_lists_stay(self):
        sets = [[0], [1, 2], [1]]
        told = choose_by_new(3, sets)
        sets[1].append(9)
        sets.append([0, 1, 2])
        choose_by_new(3, [[0, 1, 2]])
        self.assertEqual(told, ([1, 0], [(1, 1), (1, 2), (1, 2)]))

    def test_worst_cases_are_the_askers_own(self):
        before = copy.deepcopy(worst_choice(3))
        many, sets, other = worst_choice(3)
        for at in range(len(sets)):
            changed = copy.deepcopy(sets)
            sets[at].append(9)
            changed[at].append(9)
            self.assertEqual(sets, changed)
        sets.clear()
        other.append(9)
        self.assertEqual(worst_choice(3), before)


if __name__ == "__main__":
    unittest.main()
