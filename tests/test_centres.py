import copy
import itertools
import unittest

from nearenough.centres import centres_apart, lets_centres, reach_of, worst_centres
from nearenough.tours import are_roads

MOST = 10 ** 12


def roads_of(many, road):
    """Roads by a function that tells the road from the lesser place to the greater."""
    return [[0 if one == other else road(min(one, other), max(one, other)) for other in range(many)]
            for one in range(many)]


def street(spots):
    """Roads along one straight street."""
    return roads_of(len(spots), lambda one, other: abs(spots[one] - spots[other]))


def town(spots):
    """Roads along the streets of a town with blocks."""
    return roads_of(len(spots), lambda one, other: abs(spots[one][0] - spots[other][0])
                    + abs(spots[one][1] - spots[other][1]))


def small_roads(many, lengths):
    """All roads between so many places with lengths out of these."""
    pairs = list(itertools.combinations(range(many), 2))
    for some in itertools.product(lengths, repeat=len(pairs)):
        told = dict(zip(pairs, some))
        roads = roads_of(many, lambda one, other: told[one, other])
        if are_roads(roads):
            yield roads


LARGE = (
    [[0]],
    [[0] * 40 for place in range(40)],
    roads_of(40, lambda one, other: 1),
    roads_of(40, lambda one, other: MOST),
    roads_of(40, lambda one, other: 1 + (one * other + one) % 2),
    roads_of(40, lambda one, other: 50 + (one * 31 + other * 17) % 51),
    street(list(range(40))),
    street([place * 7919 % 101 for place in range(40)]),
    street([place // 2 for place in range(40)]),
    town([(place * 37 % 11, place * 23 % 13) for place in range(40)]),
    town([(place % 6, place // 6) for place in range(36)]),
)


def far(roads, centres):
    """The reach, by the lists of the centres alone."""
    return max(min(column) for column in zip(*[roads[centre] for centre in centres]))


def next_by_the_words(roads, centres):
    """The place that would be the next centre."""
    free = [place for place in range(len(roads)) if place not in centres]
    roads_there = {place: min(roads[place][centre] for centre in centres) for place in free}
    return min(place for place in free if roads_there[place] == max(roads_there.values()))


def by_the_words(roads, many):
    centres = [0]
    for step in range(many - 1):
        centres = centres + [next_by_the_words(roads, centres)]
    if far(roads, centres) == 0:
        return (centres, [])
    return (centres, centres + [next_by_the_words(roads, centres)])


def best_reach(roads, many):
    return min(far(roads, some) for some in itertools.combinations(range(len(roads)), many))


class CentresCase(unittest.TestCase):
    def assert_plain(self, told):
        self.assertIs(type(told), tuple)
        self.assertEqual([type(part) for part in told], [list, list])
        for part in told:
            self.assertTrue(all(type(number) is int for number in part))


class Reach(CentresCase):
    def assert_reach(self, roads, centres, reach):
        told = reach_of(roads, centres)
        self.assertEqual(told, reach)
        self.assertIs(type(told), int)

    def test_one_centre(self):
        row = street([0, 1, 3, 10])
        self.assert_reach(row, [0], 10)
        self.assert_reach(row, [1], 9)
        self.assert_reach(row, [2], 7)
        self.assert_reach(row, [3], 10)
        self.assert_reach([[0]], [0], 0)
        self.assert_reach([[0, MOST], [MOST, 0]], [1], MOST)

    def test_more_centres(self):
        row = street([0, 1, 3, 10])
        self.assert_reach(row, [0, 3], 3)
        self.assert_reach(row, [3, 0], 3)
        self.assert_reach(row, [1, 3], 2)
        self.assert_reach(row, [0, 1], 9)
        self.assert_reach(row, [3, 2, 0], 1)
        self.assert_reach(row, [0, 1, 2, 3], 0)

    def test_centre_told_twice(self):
        row = street([0, 1, 3, 10])
        self.assert_reach(row, [0, 0], 10)
        self.assert_reach(row, [2, 2, 2], 7)
        self.assert_reach(row, [1, 3, 1], 2)
        self.assert_reach(row, [0, 1, 2, 3, 3, 2, 1, 0], 0)
        self.assert_reach([[0]], [0, 0, 0], 0)

    def test_roads_of_nought(self):
        self.assert_reach([[0] * 40 for place in range(40)], [17], 0)
        self.assert_reach(street([0, 0, 5, 5]), [0], 5)
        self.assert_reach(street([0, 0, 5, 5]), [1, 2], 0)

    def test_many_places(self):
        for roads in LARGE[1:]:
            for centres in ([0], [5, 30], [1, 12, 12, 9, 33], list(range(36))):
                self.assert_reach(roads, centres, far(roads, centres))


class Rule(CentresCase):
    def assert_told(self, roads, many, centres, apart):
        told = centres_apart(roads, many)
        self.assert_plain(told)
        self.assertEqual(told, (centres, apart))
        self.assertIs(lets_centres(roads, many, *told), True)

    def test_nought_first_then_the_farthest(self):
        row = street([5, 0, 6, 9, 20])
        self.assert_told(row, 1, [0], [0, 4])
        self.assert_told(row, 2, [0, 4], [0, 4, 1])
        self.assert_told(row, 3, [0, 4, 1], [0, 4, 1, 3])
        self.assert_told(row, 4, [0, 4, 1, 3], [0, 4, 1, 3, 2])
        self.assert_told(row, 5, [0, 4, 1, 3, 2], [])

    def test_farthest_from_its_nearest_centre(self):
        # Behind 0 and 4 the place 3 is farthest from 0, but near to 4.
        self.assert_told(street([0, 4, 5, 9, 10]), 3, [0, 4, 2], [0, 4, 2, 1])
        self.assert_told(street([0, 1, 9, 10]), 2, [0, 3], [0, 3, 1])

    def test_of_several_the_least(self):
        self.assert_told(roads_of(5, lambda one, other: 3), 1, [0], [0, 1])
        self.assert_told(roads_of(5, lambda one, other: 3), 3, [0, 1, 2], [0, 1, 2, 3])
        self.assert_told(street([0, 2, -5, 5, 2]), 1, [0], [0, 2])
        self.assert_told(street([0, 2, -5, 5, 2]), 2, [0, 2], [0, 2, 3])
        self.assert_told(street([0, 2, -5, 5, 2]), 3, [0, 2, 3], [0, 2, 3, 1])

    def test_one_place(self):
        self.assert_told([[0]], 1, [0], [])

    def test_as_many_as_places(self):
        for roads in LARGE:
            many = len(roads)
            told = centres_apart(roads, many)
            self.assert_plain(told)
            self.assertEqual(sorted(told[0]), list(range(many)))
            self.assertEqual(told[1], [])
            self.assertIs(lets_centres(roads, many, *told), True)

    def test_roads_of_nought(self):
        none = [[0] * 4 for place in range(4)]
        for many in (1, 2, 3, 4):
            self.assert_told(none, many, list(range(many)), [])
        # Two pairs that stand together: behind one of each the others are centres none the less.
        pairs = street([0, 0, 5, 5])
        self.assert_told(pairs, 1, [0], [0, 2])
        self.assert_told(pairs, 2, [0, 2], [])
        self.assert_told(pairs, 3, [0, 2, 1], [])
        self.assert_told(pairs, 4, [0, 2, 1, 3], [])

    def test_every_small_roads(self):
        for places, lengths in ((2, (0, 1, 2)), (3, (0, 1, 2, 3)), (4, (0, 1, 2)), (4, (2, 3, 4)), (5, (1, 2))):
            for roads in small_roads(places, lengths):
                for many in range(1, places + 1):
                    self.assert_told(roads, many, *by_the_words(roads, many))

    def test_many_places(self):
        for roads in LARGE:
            for many in (1, 2, 3, 7, 19, 35, 36, 39, 40):
                if many <= len(roads):
                    self.assert_told(roads, many, *by_the_words(roads, many))

    def test_never_more_than_twice_the_best(self):
        for places, lengths in ((3, (0, 1, 2, 3)), (4, (0, 1, 2)), (5, (1, 2))):
            for roads in small_roads(places, lengths):
                for many in range(1, places + 1):
                    reach = far(roads, centres_apart(roads, many)[0])
                    self.assertLessEqual(reach, 2 * best_reach(roads, many))


class Looker(CentresCase):
    row = street([0, 1, 3, 10])

    def lets(self, many, centres, apart, roads=row):
        answer = lets_centres(roads, many, centres, apart)
        self.assertIs(type(answer), bool)
        return answer

    def test_papers_of_other_hands(self):
        self.assertTrue(self.lets(2, [1, 3], [0, 2, 3]))
        self.assertTrue(self.lets(2, [3, 1], [3, 2, 0]))
        self.assertTrue(self.lets(2, [2, 3], [0, 3, 2]))
        self.assertTrue(self.lets(1, [2], [0, 3]))
        self.assertTrue(self.lets(3, [0, 2, 3], [0, 1, 2, 3]))

    def test_centres_too_few_or_too_many(self):
        for centres in ([], [0], [3], [0, 1, 3], [0, 1, 2, 3], [1, 3] * 100):
            self.assertFalse(self.lets(2, centres, [0, 2, 3]))
        self.assertFalse(self.lets(1, [], [0, 3]))
        self.assertFalse(self.lets(1, [2, 3], [0, 3]))
        self.assertFalse(self.lets(4, [0, 1, 2], [0, 1, 2, 3]))
        self.assertFalse(self.lets(1, [], [], [[0]]))

    def test_no_centres_at_all(self):
        for apart in ([], [0], [0, 3]):
            self.assertFalse(self.lets(0, [], apart))

    def test_centre_twice(self):
        self.assertFalse(self.lets(2, [2, 2], [0, 2, 3]))
        self.assertFalse(self.lets(2, [3, 3], [0, 2, 3]))
        self.assertFalse(self.lets(3, [1, 3, 1], [0, 2, 3]))
        self.assertFalse(self.lets(3, [1, 3, 1], [0, 1, 2, 3]))
        self.assertFalse(self.lets(2, [0, 0], [], [[0, 0], [0, 0]]))

    def test_centres_that_are_no_places(self):
        for number in (-1, -4, 4, 5, 10 ** 20, -(10 ** 20)):
            self.assertFalse(self.lets(2, [1, number], [0, 2, 3]))
            self.assertFalse(self.lets(2, [number, 3], [0, 2, 3]))
        self.assertFalse(self.lets(1, [1], [], [[0]]))
        self.assertFalse(self.lets(1, [-1], [], [[0]]))
        self.assertFalse(self.lets(2, [0, 1], [], [[0]]))

    def test_apart_too_long_or_too_short(self):
        for apart in ([], [0], [0, 3], [2, 3], [0, 1, 2, 3], [0, 2, 3, 0], [0, 2, 3, 3, 3], [0, 2, 3] * 100):
            self.assertFalse(self.lets(2, [1, 3], apart))

    def test_apart_with_a_place_twice(self):
        for apart in ([0, 3, 3], [3, 0, 3], [0, 0, 3], [2, 2, 2]):
            self.assertFalse(self.lets(2, [1, 3], apart))

    def test_apart_beyond(self):
        for number in (-1, -2, -4, 4, 10 ** 20, -(10 ** 20)):
            self.assertFalse(self.lets(2, [1, 3], [0, 3, number]))
            self.assertFalse(self.lets(2, [1, 3], [number, 0, 3]))

    def test_two_nearer_than_the_reach(self):
        self.assertFalse(self.lets(2, [1, 3], [0, 1, 3]))
        self.assertTrue(self.lets(2, [1, 3], [1, 2, 3]))
        self.assertFalse(self.lets(2, [0, 3], [1, 2, 3]))
        self.assertTrue(self.lets(2, [0, 3], [0, 2, 3]))
        # The last two alone, or the first and the last, are too near.
        self.assertFalse(self.lets(2, [0, 3], [3, 1, 2]))
        self.assertFalse(self.lets(2, [0, 3], [1, 3, 2]))
        self.assertFalse(self.lets(2, [0, 3], [2, 3, 1]))

    def test_just_the_reach_and_one_less(self):
        roads = street([0, 5, 10])
        self.assertTrue(self.lets(1, [1], [0, 1], roads))
        self.assertTrue(self.lets(1, [0], [0, 2], roads))
        self.assertFalse(self.lets(1, [0], [0, 1], roads))
        far_off = street([0, 1, MOST])
        self.assertTrue(self.lets(1, [0], [0, 2], far_off))
        self.assertFalse(self.lets(1, [0], [1, 2], far_off))
        self.assertTrue(self.lets(1, [1], [1, 2], far_off))

    def test_reach_of_nought_with_whatever_apart(self):
        none = [[0] * 3 for place in range(3)]
        aparts = ([], [0], [0, 1], [0, 1, 2], [5], [-1, -1], [0, 0, 0, 0], [10 ** 20, -5], [7] * 1000)
        for apart in aparts:
            self.assertTrue(self.lets(1, [0], apart, [[0]]))
            self.assertTrue(self.lets(1, [2], apart, none))
            self.assertTrue(self.lets(2, [2, 0], apart, none))
            self.assertTrue(self.lets(4, [3, 1, 0, 2], apart))
            self.assertTrue(self.lets(2, [3, 0], apart, street([0, 0, 5, 5])))
            self.assertFalse(self.lets(2, [1, 0], apart, street([0, 0, 5, 5])))
            self.assertFalse(self.lets(4, [3, 1, 0, 0], apart))
            self.assertFalse(self.lets(2, [0, 0], apart, none))

    def test_every_small_paper(self):
        """Each paper is let by just where the words say so, and none of these is worse than told."""
        papers = [list(some) for length in range(4) for some in itertools.product((-1, 0, 1, 2, 3), repeat=length)]
        by = 0
        for roads in (street([0, 1, 3]), street([0, 0, 2]), roads_of(3, lambda one, other: 2), street([0, 2, 1])):
            for many in (1, 2, 3):
                best = best_reach(roads, many)
                for centres, apart in itertools.product(papers, papers):
                    holds = self.holds(roads, many, centres, apart)
                    self.assertIs(lets_centres(roads, many, centres, apart), holds)
                    if holds:
                        by += 1
                        self.assertLessEqual(far(roads, centres), 2 * best)
        self.assertGreater(by, 100)

    def holds(self, roads, many, centres, apart):
        places = set(range(len(roads)))
        if not (set(centres) <= places and len(set(centres)) == len(centres) == many):
            return False
        reach = far(roads, centres)
        unlike = set(apart) <= places and len(set(apart)) == len(apart) == many + 1
        return reach == 0 or unlike and all(roads[a][b] >= reach for a, b in itertools.combinations(apart, 2))


class Worst(CentresCase):
    def test_each_size(self):
        for size in range(1, 14):
            with self.subTest(size=size):
                told = worst_centres(size)
                self.assertIs(type(told), tuple)
                roads, other = told
                want = [[100] * (3 * size) for place in range(3 * size)]
                for k in range(size):
                    for one, row in enumerate(([0, 1, 2], [1, 0, 1], [2, 1, 0])):
                        want[3 * k + one][3 * k:3 * k + 3] = row
                self.assertTrue(roads == want)
                self.assertIs(type(roads), list)
                self.assertEqual({type(row) for row in roads}, {list})
                self.assertEqual({type(road) for row in roads for road in row}, {int})
                self.assertIs(are_roads(roads), True)
                self.assertIs(type(other), list)
                self.assertEqual({type(place) for place in other}, {int})
                self.assertEqual(len(other), size)
                self.assertEqual(len(set(other)), size)
                self.assertTrue(set(other) <= set(range(3 * size)))
                self.assertEqual(far(roads, other), 1)
                self.assertEqual(reach_of(roads, other), 1)

    def test_the_rule_there(self):
        for size in range(1, 14):
            roads, other = worst_centres(size)
            centres, apart = centres_apart(roads, size)
            self.assertEqual(centres, [3 * k for k in range(size)])
            self.assertEqual(reach_of(roads, centres), 2)
            self.assertIs(lets_centres(roads, size, centres, apart), True)
            self.assertIs(lets_centres(roads, size, other, apart), True)


class Kept(CentresCase):
    def test_what_is_handed_in_stays(self):
        for roads in LARGE:
            before = copy.deepcopy(roads)
            for many in (1, 2, 17, 40):
                if many > len(roads):
                    continue
                centres, apart = centres_apart(roads, many)
                paper = copy.deepcopy((centres, apart))
                reach_of(roads, centres)
                lets_centres(roads, many, centres, apart)
                lets_centres(roads, many, centres[::-1], apart[1:])
                self.assertTrue(roads == before)
                self.assertTrue((centres, apart) == paper)

    def test_told_lists_are_the_askers_own(self):
        roads = street([5, 0, 6, 9, 20])
        first = centres_apart(roads, 2)
        first[0].append(9)
        self.assertEqual(first[1], [0, 4, 1])
        first[1][0] = 9
        self.assertEqual(first[0], [0, 4, 9])
        self.assertEqual(centres_apart(roads, 2), ([0, 4], [0, 4, 1]))
        single = centres_apart([[0]], 1)
        single[0].append(9)
        single[1].append(9)
        self.assertEqual(centres_apart([[0]], 1), ([0], []))

    def test_told_lists_stay(self):
        roads = street([5, 0, 6, 9, 20])
        told = centres_apart(roads, 2)
        for row in roads:
            row.clear()
        centres_apart(street([0, 1, 2]), 3)
        self.assertEqual(told, ([0, 4], [0, 4, 1]))

    def test_worst_cases_are_the_askers_own(self):
        before = copy.deepcopy(worst_centres(2))
        roads, other = worst_centres(2)
        for at in range(len(roads)):
            changed = copy.deepcopy(roads)
            roads[at][0] = 9
            changed[at][0] = 9
            self.assertEqual(roads, changed)
        roads.clear()
        other.append(9)
        self.assertEqual(worst_centres(2), before)


if __name__ == "__main__":
    unittest.main()
