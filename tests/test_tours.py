import copy
import itertools
import unittest

from nearenough.tours import are_roads, length_of, lets_tour, tour_by_tree, worst_tour

MOST = 10 ** 12


def roads_of(many, road):
    """Roads by a function that tells the road from the lesser place to the greater."""
    return [[0 if one == other else road(min(one, other), max(one, other)) for other in range(many)]
            for one in range(many)]


def street(spots):
    """Roads along one straight street."""
    return roads_of(len(spots), lambda one, other: abs(spots[one] - spots[other]))


def town(spots):
    """Roads along the streets of a town with blocks."""
    return roads_of(len(spots), lambda one, other: abs(spots[one][0] - spots[other][0])
                    + abs(spots[one][1] - spots[other][1]))


def from_lengths(many, lengths):
    """Roads with these lengths, for (0, 1), (0, 2) and so on."""
    told = dict(zip(itertools.combinations(range(many), 2), lengths))
    return roads_of(many, lambda one, other: told[one, other])


def hold(roads):
    """Whether three places each keep to what roads are."""
    places = range(len(roads))
    return all(roads[a][b] <= roads[a][c] + roads[c][b] for a, b, c in itertools.permutations(places, 3))


def small_roads(many, lengths):
    """All roads between so many places with lengths out of these."""
    for some in itertools.product(lengths, repeat=many * (many - 1) // 2):
        roads = from_lengths(many, some)
        if hold(roads):
            yield roads


ONES = roads_of(40, lambda one, other: 1)
LARGE = (
    [[0]],
    [[0] * 40 for place in range(40)],
    ONES,
    roads_of(40, lambda one, other: MOST),
    roads_of(40, lambda one, other: 1 + (one * other + one) % 2),
    roads_of(40, lambda one, other: 50 + (one * 31 + other * 17) % 51),
    street(list(range(40))),
    street([place * 7919 % 101 for place in range(40)]),
    street([place * 10 ** 10 for place in range(40)]),
    town([(place * 37 % 11, place * 23 % 13) for place in range(40)]),
    town([(place % 6, place // 6) for place in range(36)]),
)


def tree_by_the_words(roads):
    """The told tree, each next road the first of all that lead out of it, in their order."""
    tree = []
    while len(tree) + 1 < len(roads):
        inside = {0} | {new for place, new in tree}
        leading = [(place, new) for place in sorted(inside) for new in range(len(roads)) if new not in inside]
        shortest = min(roads[place][new] for place, new in leading)
        tree.append([pair for pair in leading if roads[pair[0]][pair[1]] == shortest][0])
    return tree


def down(tree, place):
    """The places from this one down the tree."""
    tour = [place]
    for new in sorted(new for start, new in tree if start == place):
        tour += down(tree, new)
    return tour


def way(tree, start, end, before=None):
    """The roads of the tree on its way between two places, or None."""
    if start == end:
        return []
    for pair in tree:
        if start in pair and pair != before:
            rest = way(tree, pair[1] if pair[0] == start else pair[0], end, pair)
            if rest is not None:
                return [pair] + rest
    return None


def long(roads, tour):
    return sum(roads[tour[at]][tour[(at + 1) % len(tour)]] for at in range(len(tour)))


def shortest_tour(roads):
    return min(long(roads, (0,) + rest) for rest in itertools.permutations(range(1, len(roads))))


class Roads(unittest.TestCase):
    def assert_roads(self, thing, answer):
        before = copy.deepcopy(thing)
        told = are_roads(thing)
        self.assertIs(told, answer)
        self.assertTrue(thing == before)

    def assert_spoilt(self, one, other, road, both=True, of=ONES):
        """Roads are none any more where one of them is changed to this."""
        thing = copy.deepcopy(of)
        thing[one][other] = road
        if both:
            thing[other][one] = road
        self.assert_roads(thing, False)

    def test_what_is_roads(self):
        for roads in LARGE:
            self.assert_roads(roads, True)
        self.assert_roads([[0, 5], [5, 0]], True)
        self.assert_roads([[0, 0], [0, 0]], True)
        self.assert_roads([[0, 1, 3], [1, 0, 2], [3, 2, 0]], True)

    def test_none_within(self):
        self.assert_roads([], False)

    def test_each_number_of_places(self):
        for many in range(1, 41):
            self.assert_roads(roads_of(many, lambda one, other: 2), True)
        for many in (41, 42, 60, 100):
            self.assert_roads(roads_of(many, lambda one, other: 2), False)
        self.assert_roads([[]] * 5000, False)

    def test_list_too_long_or_too_short(self):
        self.assert_roads([[]], False)
        self.assert_roads([[0, 0]], False)
        self.assert_roads([[], []], False)
        self.assert_roads([[0], [0]], False)
        self.assert_roads([[0, 1], [1]], False)
        self.assert_roads([[0], [1, 0]], False)
        self.assert_roads([[0, 1, 1], [1, 0, 1]], False)
        self.assert_roads([[0, 1], [1, 0], [1, 1]], False)
        self.assert_roads([[0, 1], [1, 0], []], False)
        for at in (0, 20, 39):
            self.assert_roads([row + [1] if place == at else row for place, row in enumerate(ONES)], False)
            self.assert_roads([row[:-1] if place == at else row for place, row in enumerate(ONES)], False)
            self.assert_roads([[] if place == at else row for place, row in enumerate(ONES)], False)

    def test_own_road_that_is_not_nought(self):
        for number in (1, -1, 2, MOST, 10 ** 20):
            self.assert_roads([[number]], False)
            self.assert_roads([[number, 5], [5, 0]], False)
            self.assert_roads([[0, 5], [5, number]], False)
            for place in (0, 17, 39):
                self.assert_spoilt(place, place, number)

    def test_one_way_longer(self):
        self.assert_roads([[0, 1], [2, 0]], False)
        self.assert_roads([[0, 2], [1, 0]], False)
        self.assert_roads([[0, 1], [0, 0]], False)
        for one, other in ((0, 1), (1, 0), (0, 39), (39, 0), (38, 39), (39, 38), (12, 30)):
            self.assert_spoilt(one, other, 2, both=False)
            self.assert_spoilt(one, other, 0, both=False)

    def test_longer_than_by_a_third_place(self):
        self.assert_roads([[0, 1, 2], [1, 0, 1], [2, 1, 0]], True)
        self.assert_roads([[0, 1, 3], [1, 0, 1], [3, 1, 0]], False)
        self.assert_roads([[0, 3, 1], [3, 0, 1], [1, 1, 0]], False)
        self.assert_roads([[0, 1, 1], [1, 0, 3], [1, 3, 0]], False)
        self.assert_roads([[0, 0, 1], [0, 0, 0], [1, 0, 0]], False)
        for one, other in ((0, 1), (0, 39), (38, 39), (12, 30)):
            self.assert_spoilt(one, other, 3)
        # A road longer than the way by one place alone, whichever it is.
        for third in range(4):
            thing = roads_of(4, lambda one, other: 4)
            ends = [place for place in range(4) if place != third]
            thing[third][ends[0]] = thing[ends[0]][third] = 2
            thing[third][ends[1]] = thing[ends[1]][third] = 2
            self.assert_roads(thing, True)
            thing[ends[0]][ends[1]] = thing[ends[1]][ends[0]] = 5
            thing[ends[0]][ends[2]] = thing[ends[2]][ends[0]] = 5
            thing[ends[1]][ends[2]] = thing[ends[2]][ends[1]] = 5
            self.assert_roads(thing, False)

    def test_below_nought(self):
        self.assert_roads([[0, -1], [-1, 0]], False)
        self.assert_roads([[0, -MOST], [-MOST, 0]], False)
        for one, other in ((0, 1), (0, 39), (38, 39), (12, 30)):
            self.assert_spoilt(one, other, -1)

    def test_longest(self):
        self.assert_roads([[0, MOST], [MOST, 0]], True)
        self.assert_roads([[0, MOST + 1], [MOST + 1, 0]], False)
        self.assert_roads(roads_of(3, lambda one, other: MOST), True)
        self.assert_roads(roads_of(3, lambda one, other: MOST + 1), False)
        self.assert_roads(roads_of(3, lambda one, other: 10 ** 20), False)
        self.assert_spoilt(38, 39, MOST + 1, of=roads_of(40, lambda one, other: MOST))

    def test_every_small_thing(self):
        for some in itertools.product((0, 1, 2, 3), repeat=6):
            roads = from_lengths(4, some)
            self.assertIs(are_roads(roads), hold(roads))
        for some in itertools.product((-1, 0, 1), repeat=9):
            thing = [list(some[:3]), list(some[3:6]), list(some[6:])]
            good = (all(thing[a][a] == 0 for a in range(3)) and min(some) >= 0 and hold(thing)
                    and all(thing[a][b] == thing[b][a] for a in range(3) for b in range(3)))
            self.assertIs(are_roads(thing), good)


class Lengths(unittest.TestCase):
    def assert_long(self, roads, tour, length):
        told = length_of(roads, tour)
        self.assertEqual(told, length)
        self.assertIs(type(told), int)

    def test_by_hand(self):
        self.assert_long([[0]], [0], 0)
        self.assert_long([[0, 5], [5, 0]], [0, 1], 10)
        self.assert_long([[0, 5], [5, 0]], [1, 0], 10)
        corner = [[0, 3, 4], [3, 0, 5], [4, 5, 0]]
        for tour in itertools.permutations(range(3)):
            self.assert_long(corner, list(tour), 12)
        self.assert_long(street([0, 1, 10, 11]), [0, 1, 2, 3], 22)
        self.assert_long(street([0, 1, 10, 11]), [0, 2, 1, 3], 10 + 9 + 10 + 11)
        self.assert_long(street([0, 1, 10, 11]), [2, 0, 3, 1], 10 + 11 + 10 + 9)

    def test_many_places(self):
        self.assert_long(ONES, list(range(40)), 40)
        self.assert_long(LARGE[3], list(range(39, -1, -1)), 40 * MOST)
        for roads in LARGE:
            for step in (1, 7, 11):
                tour = [place * step % len(roads) for place in range(len(roads))]
                self.assert_long(roads, tour, long(roads, tour))


class Rule(unittest.TestCase):
    def assert_told(self, roads, tour, tree):
        told = tour_by_tree(roads)
        self.assertIs(type(told), tuple)
        self.assertEqual([type(part) for part in told], [list, list])
        self.assertEqual(told, (tour, tree))
        self.assertTrue(all(type(place) is int for place in told[0]))
        for pair in told[1]:
            self.assertIs(type(pair), tuple)
            self.assertEqual([type(place) for place in pair], [int, int])
        self.assertIs(lets_tour(roads, *told), True)

    def test_one_place(self):
        self.assert_told([[0]], [0], [])

    def test_two_places(self):
        self.assert_told([[0, 5], [5, 0]], [0, 1], [(0, 1)])
        self.assert_told([[0, 0], [0, 0]], [0, 1], [(0, 1)])
        self.assert_told([[0, MOST], [MOST, 0]], [0, 1], [(0, 1)])

    def test_order_of_growing(self):
        self.assert_told(street([0, 3, 1, 2]), [0, 2, 3, 1], [(0, 2), (2, 3), (3, 1)])
        self.assert_told(street([5, 0, 6, 9]), [0, 1, 2, 3], [(0, 2), (2, 3), (0, 1)])
        self.assert_told(street([0, -1, 9, -3, 10]), [0, 1, 3, 2, 4], [(0, 1), (1, 3), (0, 2), (2, 4)])

    def test_of_several_the_place_in_the_tree_is_less(self):
        # Place 3 is as near to 2, which comes into the tree first, as to 1.
        roads = from_lengths(4, (2, 1, 3, 2, 2, 2))
        self.assert_told(roads, [0, 1, 3, 2], [(0, 2), (0, 1), (1, 3)])
        # All roads alike: all hang on 0.
        self.assert_told(roads_of(5, lambda a, b: 7), [0, 1, 2, 3, 4], [(0, 1), (0, 2), (0, 3), (0, 4)])
        self.assert_told([[0] * 4 for place in range(4)], [0, 1, 2, 3], [(0, 1), (0, 2), (0, 3)])

    def test_the_place_in_the_tree_goes_ahead_of_the_other_place(self):
        # Of like length are (0, 3) and (1, 2) behind (0, 1).
        roads = from_lengths(4, (1, 3, 2, 2, 3, 4))
        self.assert_told(roads, [0, 1, 2, 3], [(0, 1), (0, 3), (1, 2)])

    def test_then_the_other_place_is_less(self):
        roads = from_lengths(4, (2, 1, 1, 2, 2, 2))
        self.assert_told(roads, [0, 1, 2, 3], [(0, 2), (0, 3), (0, 1)])

    def test_down_the_tree_by_numbers(self):
        # 4, 2 and 3 hang on 0, in the order of growing; 1 and 5 hang on 4.
        spots = [(0, 0), (0, 3), (3, 0), (-4, 0), (0, 1), (1, 1)]
        self.assert_told(town(spots), [0, 2, 3, 4, 1, 5], [(0, 4), (4, 5), (4, 1), (0, 2), (0, 3)])

    def test_every_small_roads(self):
        for many, lengths in ((2, (0, 1, 2)), (3, (0, 1, 2, 3)), (4, (0, 1, 2)), (4, (2, 3, 4)), (5, (1, 2))):
            for roads in small_roads(many, lengths):
                tree = tree_by_the_words(roads)
                self.assert_told(roads, down(tree, 0), tree)

    def test_many_places(self):
        for roads in LARGE:
            tree = tree_by_the_words(roads)
            self.assert_told(roads, down(tree, 0), tree)
            self.assertEqual(sorted(tour_by_tree(roads)[0]), list(range(len(roads))))

    def test_never_more_than_twice_the_best(self):
        for many, lengths in ((3, (0, 1, 2, 3)), (4, (0, 1, 2)), (5, (1, 2))):
            for roads in small_roads(many, lengths):
                self.assertLessEqual(long(roads, tour_by_tree(roads)[0]), 2 * shortest_tour(roads))


class Looker(unittest.TestCase):
    row = street([0, 1, 3, 6])
    tree = [(0, 1), (1, 2), (2, 3)]

    def lets(self, tour, tree, roads=row):
        answer = lets_tour(roads, tour, tree)
        self.assertIs(type(answer), bool)
        return answer

    def test_papers_of_other_hands(self):
        self.assertTrue(self.lets([0, 1, 2, 3], self.tree))
        self.assertTrue(self.lets([2, 0, 1, 3], self.tree))
        self.assertTrue(self.lets([3, 2, 1, 0], self.tree))
        self.assertTrue(self.lets([0], [], [[0]]))

    def test_tour_that_lacks_a_place(self):
        for tour in ([], [0], [0, 1], [0, 1, 2], [1, 2, 3], [0, 1, 3]):
            self.assertFalse(self.lets(tour, self.tree))
        self.assertFalse(self.lets([], [], [[0]]))

    def test_tour_with_a_place_twice(self):
        for tour in ([0, 1, 2, 3, 0], [0, 0, 1, 2, 3], [0, 1, 2, 3, 3], [0, 1, 2, 2], [0, 1, 1, 3], [0, 0, 0, 0]):
            self.assertFalse(self.lets(tour, self.tree))
        self.assertFalse(self.lets([0, 0], [], [[0]]))

    def test_tour_beyond(self):
        for tour in ([0, 1, 2, 4], [1, 2, 3, 4], [0, 1, 2, 3, 4], [0, 1, 2, -1], [-1, 0, 1, 2, 3], [0, 1, 2, 10 ** 20]):
            self.assertFalse(self.lets(tour, self.tree))
        self.assertFalse(self.lets([1], [], [[0]]))
        self.assertFalse(self.lets([-1], [], [[0]]))
        self.assertFalse(self.lets([0, 1], [], [[0]]))

    def test_too_few_or_too_many_tuples(self):
        for tree in ([], [(0, 1)], [(0, 1), (1, 2)], [(0, 1), (2, 3)], self.tree + [(0, 2)], self.tree + [(0, 1)],
                     self.tree + [(2, 3), (2, 3)], self.tree * 100):
            self.assertFalse(self.lets([0, 1, 2, 3], tree))
        self.assertFalse(self.lets([0], [(0, 0)], [[0]]))
        self.assertFalse(self.lets([0], [(0, 1)], [[0]]))
        self.assertFalse(self.lets([0, 1], [], [[0, 0], [0, 0]]))

    def test_like_places(self):
        for tree in ([(0, 1), (1, 2), (2, 2)], [(0, 1), (1, 2), (3, 3)], [(0, 0), (1, 2), (2, 3)]):
            self.assertFalse(self.lets([0, 1, 2, 3], tree))
        self.assertFalse(self.lets([0, 1], [(0, 0)], [[0, 0], [0, 0]]))
        self.assertFalse(self.lets([0, 1], [(1, 1)], [[0, 0], [0, 0]]))

    def test_places_beyond(self):
        for pair in ((2, 4), (4, 2), (2, -1), (-1, 2), (3, 4), (-4, 3), (2, 10 ** 20), (-(10 ** 20), 3)):
            self.assertFalse(self.lets([0, 1, 2, 3], [(0, 1), (1, 2), pair]))
            self.assertFalse(self.lets([0, 1, 2, 3], [pair, (0, 1), (1, 2)]))
        self.assertFalse(self.lets([0, 1], [(0, 2)], [[0, 0], [0, 0]]))
        self.assertFalse(self.lets([0, 1], [(0, -1)], [[0, 0], [0, 0]]))
        self.assertFalse(self.lets([0, 1], [(1, -2)], [[0, 0], [0, 0]]))

    def test_tree_that_does_not_hold_together(self):
        none = [[0] * 4 for place in range(4)]
        for tree in ([(0, 1), (1, 2), (0, 2)], [(0, 1), (1, 0), (2, 3)], [(0, 1), (0, 1), (2, 3)],
                     [(1, 2), (2, 3), (1, 3)], [(0, 1), (0, 1), (0, 1)], [(2, 3), (0, 1), (3, 2)]):
            self.assertFalse(self.lets([0, 1, 2, 3], tree, none))
            self.assertFalse(self.lets([0, 1, 2, 3], tree))

    def test_either_place_ahead_and_any_order(self):
        for turned in itertools.product((1, -1), repeat=3):
            tree = [pair[::step] for pair, step in zip(self.tree, turned)]
            for some in itertools.permutations(tree):
                self.assertTrue(self.lets([0, 1, 2, 3], list(some)))
        for some in itertools.permutations([(1, 0), (2, 3), (3, 1)]):
            self.assertFalse(self.lets([0, 1, 2, 3], list(some)))

    def test_road_shorter_than_one_on_the_way(self):
        self.assertFalse(self.lets([0, 1, 2, 3], [(0, 1), (0, 2), (2, 3)]))
        self.assertFalse(self.lets([0, 1, 2, 3], [(0, 1), (1, 2), (1, 3)]))
        self.assertFalse(self.lets([0, 1, 2, 3], [(0, 1), (1, 2), (0, 3)]))
        # The road (2, 3) is shorter than (0, 1), the midmost on the way 2, 0, 1, 3.
        roads = from_lengths(4, (3, 1, 3, 3, 1, 2))
        self.assertTrue(hold(roads))
        self.assertFalse(self.lets([0, 2, 3, 1], [(0, 2), (0, 1), (1, 3)], roads))
        self.assertTrue(self.lets([0, 2, 3, 1], [(0, 2), (2, 3), (1, 3)], roads))

    def test_road_as_long_as_one_on_the_way(self):
        roads = from_lengths(4, (3, 1, 3, 3, 1, 3))
        self.assertTrue(hold(roads))
        for middle in ((0, 1), (2, 3), (0, 3), (1, 2)):
            self.assertTrue(self.lets([0, 2, 3, 1], [(0, 2), middle, (1, 3)], roads))

    def test_just_twice_and_more(self):
        # The tree is 6 long.
        self.assertEqual(long(self.row, [0, 1, 2, 3]), 12)
        self.assertTrue(self.lets([0, 1, 2, 3], self.tree))
        self.assertEqual(long(self.row, [0, 2, 1, 3]), 16)
        self.assertFalse(self.lets([0, 2, 1, 3], self.tree))

    def test_one_more_than_twice(self):
        seen = False
        for roads in small_roads(4, (1, 2, 3)):
            tree = tour_by_tree(roads)[1]
            length = sum(roads[one][other] for one, other in tree)
            for tour in itertools.permutations(range(4)):
                self.assertIs(self.lets(list(tour), tree, roads), long(roads, tour) <= 2 * length)
                seen = seen or long(roads, tour) == 2 * length + 1
        self.assertTrue(seen)

    def test_every_small_paper(self):
        """Each paper is let by just where the words say so, and none of these is worse than told."""
        numbers = (-1, 0, 1, 2, 3)
        tours = [list(some) for length in (1, 2, 3) for some in itertools.product(numbers, repeat=length)]
        tours.append([0, 1, 2, 0])
        pairs = list(itertools.product(numbers, repeat=2))
        trees = [[pair] for pair in pairs] + [list(two) for two in itertools.product(pairs, repeat=2)]
        trees += [[], [(0, 1), (1, 2), (0, 2)]]
        for roads in (street([0, 1, 3]), street([0, 3, 1]), roads_of(3, lambda one, other: 2)):
            best = shortest_tour(roads)
            good = [tree for tree in trees if self.is_good(roads, tree)]
            self.assertGreaterEqual(len(good), 8)
            for tour, tree in itertools.product(tours, trees):
                holds = sorted(tour) == [0, 1, 2] and tree in good and long(roads, tour) <= 2 * sum(
                    roads[one][other] for one, other in tree)
                self.assertIs(lets_tour(roads, tour, tree), holds)
                if holds:
                    self.assertLessEqual(long(roads, tour), 2 * best)

    def is_good(self, roads, tree):
        """Whether the tree keeps to the words, by all its ways."""
        many = len(roads)
        if len(tree) != many - 1 or not all({one, other} <= set(range(many)) and one != other for one, other in tree):
            return False
        if len({frozenset(pair) for pair in tree}) < len(tree):
            return False
        for start, end in itertools.combinations(range(many), 2):
            found = way(tree, start, end)
            if found is None or any(roads[start][end] < roads[one][other] for one, other in found):
                return False
        return True

    def test_every_tree_of_four_places(self):
        pairs = list(itertools.combinations(range(4), 2))
        for roads in small_roads(4, (1, 2)):
            for tree in itertools.combinations(pairs, 3):
                if len({place for pair in tree for place in pair}) < 4:
                    self.assertFalse(self.lets([0, 1, 2, 3], list(tree), roads))
                    continue
                length = sum(roads[one][other] for one, other in tree)
                holds = self.is_good(roads, tree) and long(roads, [0, 1, 2, 3]) <= 2 * length
                self.assertIs(self.lets([0, 1, 2, 3], list(tree), roads), holds)

    def test_many_places(self):
        for roads in LARGE[1:]:
            many = len(roads)
            tour, tree = tour_by_tree(roads)
            self.assertTrue(self.lets(tour[::-1], [(new, place) for place, new in tree[::-1]], roads))
            self.assertFalse(self.lets(tour[1:], tree, roads))
            self.assertFalse(self.lets(tour + [many], tree, roads))
            self.assertFalse(self.lets(tour, tree[1:], roads))
            self.assertFalse(self.lets(tour, tree + tree[:1], roads))
            self.assertFalse(self.lets(tour, tree[:-1] + tree[:1], roads))


class Worst(unittest.TestCase):
    def test_each_size(self):
        for size in range(1, 19):
            with self.subTest(size=size):
                told = worst_tour(size)
                self.assertIs(type(told), tuple)
                roads, other = told
                k = 2 * size + 3
                want = roads_of(k + 1, lambda a, b: 1 if a == 0 or b - a in (2, k - 2) else 2)
                self.assertTrue(roads == want)
                self.assertIs(type(roads), list)
                self.assertEqual({type(row) for row in roads}, {list})
                self.assertEqual({type(road) for row in roads for road in row}, {int})
                self.assertIs(are_roads(roads), True)
                self.assertIs(type(other), list)
                self.assertEqual({type(place) for place in other}, {int})
                self.assertEqual(sorted(other), list(range(k + 1)))
                self.assertEqual(length_of(roads, other), k + 1)
                self.assertEqual(long(roads, other), k + 1)

    def test_the_rule_there(self):
        for size in range(1, 19):
            roads, other = worst_tour(size)
            k = 2 * size + 3
            tour, tree = tour_by_tree(roads)
            self.assertEqual(length_of(roads, tour), 2 * k)
            self.assertEqual(tree, [(0, place) for place in range(1, k + 1)])
            self.assertIs(lets_tour(roads, tour, tree), True)
            self.assertIs(lets_tour(roads, other, tree), True)


class Kept(unittest.TestCase):
    def test_what_is_handed_in_stays(self):
        for roads in LARGE:
            before = copy.deepcopy(roads)
            tour, tree = tour_by_tree(roads)
            paper = copy.deepcopy((tour, tree))
            are_roads(roads)
            length_of(roads, tour)
            lets_tour(roads, tour, tree)
            lets_tour(roads, tour[::-1], tree[1:])
            self.assertTrue(roads == before)
            self.assertTrue((tour, tree) == paper)

    def test_told_lists_are_the_askers_own(self):
        roads = street([0, 3, 1, 2])
        first = tour_by_tree(roads)
        first[0].append(9)
        first[1][0] = 9
        self.assertEqual(tour_by_tree(roads), ([0, 2, 3, 1], [(0, 2), (2, 3), (3, 1)]))
        single = tour_by_tree([[0]])
        single[0].append(9)
        single[1].append(9)
        self.assertEqual(tour_by_tree([[0]]), ([0], []))

    def test_told_lists_stay(self):
        roads = street([0, 3, 1, 2])
        told = tour_by_tree(roads)
        for row in roads:
            row.clear()
        tour_by_tree(street([0, 1, 2, 3]))
        self.assertEqual(told, ([0, 2, 3, 1], [(0, 2), (2, 3), (3, 1)]))

    def test_worst_cases_are_the_askers_own(self):
        before = copy.deepcopy(worst_tour(2))
        roads, other = worst_tour(2)
        for at in range(len(roads)):
            changed = copy.deepcopy(roads)
            roads[at][0] = 9
            changed[at][0] = 9
            self.assertEqual(roads, changed)
        roads.clear()
        other.append(9)
        self.assertEqual(worst_tour(2), before)


if __name__ == "__main__":
    unittest.main()
