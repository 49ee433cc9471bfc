import copy
import itertools
import unittest

from nearenough.sides import across, lets_sides, sides_by_turns, worst_sides


def all_ties(many):
    return [(one, other) for one in range(many) for other in range(one + 1, many)]


def webs_of(many):
    """Every web of so many points."""
    ties = all_ties(many)
    for length in range(len(ties) + 1):
        for some in itertools.combinations(ties, length):
            yield (many, list(some))


LARGE = (
    (1, []),
    (60, []),
    (60, [(0, 59)]),
    (60, [(point, point + 1) for point in range(59)]),
    (60, all_ties(60)[:400]),
    (60, all_ties(60)[::4][:400]),
    (60, all_ties(60)[-400:]),
    (28, all_ties(28)),
)


def sides_for(many):
    """Several sides for so many points."""
    return (
        [0] * many,
        [1] * many,
        [point % 2 for point in range(many)],
        [1 if 2 * point < many else 0 for point in range(many)],
        [point * 7919 % 101 % 2 for point in range(many)],
    )


def gain(web, sides, point):
    """How many more ties the point has to its own side than to the other."""
    ties = [tie for tie in web[1] if point in tie]
    return sum(1 if sides[one] == sides[other] else -1 for one, other in ties)


def by_the_words(web, sides):
    """The rule's sides and turns, every point looked at anew each time."""
    sides = list(sides)
    turns = []
    while True:
        eager = [point for point in range(web[0]) if gain(web, sides, point) > 0]
        if not eager:
            return (sides, turns)
        sides[eager[0]] = {0: 1, 1: 0}[sides[eager[0]]]
        turns.append(eager[0])


class SidesCase(unittest.TestCase):
    def assert_plain(self, told):
        self.assertIs(type(told), tuple)
        self.assertEqual([type(part) for part in told], [list, list])
        for part in told:
            self.assertTrue(all(type(number) is int for number in part))


class Rule(SidesCase):
    def assert_told(self, web, sides, to, turns):
        told = sides_by_turns(web, sides)
        self.assert_plain(told)
        self.assertEqual(told, (to, turns))
        self.assertIs(lets_sides(web, told[0]), True)
        self.assertGreaterEqual(2 * across(web, told[0]), len(web[1]))

    def test_by_hand(self):
        row = (4, [(0, 1), (1, 2), (2, 3)])
        self.assert_told(row, [0, 0, 0, 0], [1, 0, 1, 0], [0, 2])
        self.assert_told(row, [1, 1, 1, 1], [0, 1, 0, 1], [0, 2])
        self.assert_told(row, [0, 0, 1, 1], [1, 0, 1, 0], [0, 3])
        self.assert_told((2, [(0, 1)]), [0, 0], [1, 0], [0])
        self.assert_told((2, [(0, 1)]), [1, 1], [0, 1], [0])
        self.assert_told((3, [(0, 1), (0, 2), (1, 2)]), [0, 0, 0], [1, 0, 0], [0])

    def test_first_point_each_time(self):
        self.assert_told((4, [(0, 3), (1, 3), (2, 3)]), [0, 0, 0, 0], [1, 1, 1, 0], [0, 1, 2])
        self.assert_told((4, [(0, 1), (0, 2), (0, 3)]), [0, 0, 0, 0], [1, 0, 0, 0], [0])
        self.assert_told((4, [(0, 2), (1, 2), (2, 3)]), [1, 1, 0, 0], [1, 1, 0, 1], [3])

    def test_seeking_begins_anew_behind_each_turn(self):
        self.assert_told((4, [(0, 1), (1, 2), (1, 3)]), [0, 1, 1, 1], [1, 0, 1, 1], [1, 0])
        self.assert_told((4, [(0, 1), (1, 2), (1, 3)]), [0, 0, 0, 0], [0, 1, 0, 0], [0, 1, 0])
        web = (6, [(0, 1), (1, 2), (1, 3), (4, 5)])
        self.assert_told(web, [0, 0, 0, 0, 0, 0], [0, 1, 0, 0, 1, 0], [0, 1, 0, 4])

    def test_as_many_to_either_side_is_no_turn(self):
        self.assert_told((3, [(0, 1), (1, 2)]), [0, 0, 1], [1, 0, 1], [0])
        square = (4, [(0, 1), (0, 3), (1, 2), (2, 3)])
        self.assert_told(square, [0, 0, 1, 1], [0, 0, 1, 1], [])
        self.assert_told(square, [0, 1, 1, 0], [0, 1, 1, 0], [])

    def test_nothing_changes(self):
        self.assert_told((1, []), [0], [0], [])
        self.assert_told((1, []), [1], [1], [])
        self.assert_told((60, []), [0] * 60, [0] * 60, [])
        self.assert_told((60, []), [0, 1] * 30, [0, 1] * 30, [])
        self.assert_told((4, [(0, 1), (1, 2), (2, 3)]), [0, 1, 0, 1], [0, 1, 0, 1], [])
        self.assert_told((2, [(0, 1)]), [1, 0], [1, 0], [])

    def test_every_small_web(self):
        for many in (1, 2, 3, 4):
            for web in webs_of(many):
                for sides in itertools.product((0, 1), repeat=many):
                    self.assert_told(web, list(sides), *by_the_words(web, sides))

    def test_webs_of_five_points(self):
        for at, web in enumerate(webs_of(5)):
            for sides in itertools.islice(itertools.product((0, 1), repeat=5), at % 5, None, 5):
                self.assert_told(web, list(sides), *by_the_words(web, sides))

    def test_large_webs(self):
        for web in LARGE:
            for sides in sides_for(web[0]):
                told = sides_by_turns(web, sides)
                self.assert_plain(told)
                self.assertTrue(told == by_the_words(web, sides))
                self.assertIs(lets_sides(web, told[0]), True)
                self.assertGreaterEqual(2 * across(web, told[0]), len(web[1]))

    def test_turns_lead_from_the_first_sides_to_the_last(self):
        for web in LARGE:
            for sides in sides_for(web[0]):
                last, turns = sides_by_turns(web, sides)
                self.assertEqual([(side + turns.count(point)) % 2 for point, side in enumerate(sides)], last)
                self.assertLessEqual(len(turns), len(web[1]))


class Across(SidesCase):
    def assert_across(self, web, sides, many):
        told = across(web, sides)
        self.assertEqual(told, many)
        self.assertIs(type(told), int)

    def test_by_hand(self):
        row = (4, [(0, 1), (1, 2), (2, 3)])
        self.assert_across(row, [0, 0, 0, 0], 0)
        self.assert_across(row, [1, 1, 1, 1], 0)
        self.assert_across(row, [0, 0, 1, 1], 1)
        self.assert_across(row, [1, 0, 0, 1], 2)
        self.assert_across(row, [1, 0, 1, 0], 3)
        self.assert_across((1, []), [0], 0)
        self.assert_across((60, []), [0, 1] * 30, 0)

    def test_every_small_web(self):
        for web in webs_of(4):
            for sides in itertools.product((0, 1), repeat=4):
                self.assert_across(web, list(sides), sum(sides[one] + sides[other] == 1 for one, other in web[1]))

    def test_large_webs(self):
        self.assert_across((60, all_ties(60)[:400]), [0] + [1] * 59, 59)
        self.assert_across((28, all_ties(28)), [0, 1] * 14, 14 * 14)


class Looker(SidesCase):
    def lets(self, sides, web=(4, [(0, 1), (1, 2), (2, 3)])):
        answer = lets_sides(web, sides)
        self.assertIs(type(answer), bool)
        return answer

    def test_sides_of_other_hands(self):
        self.assertTrue(self.lets([0, 1, 0, 1]))
        self.assertTrue(self.lets([1, 0, 1, 0]))
        self.assertTrue(self.lets([1, 0, 0, 1]))
        self.assertTrue(self.lets([0, 0, 1, 1], (4, [(0, 1), (0, 3), (1, 2), (2, 3)])))
        self.assertTrue(self.lets([0], (1, [])))
        self.assertTrue(self.lets([1], (1, [])))
        self.assertTrue(self.lets([1] * 60, (60, [])))

    def test_too_many_or_too_few(self):
        for sides in ([], [0], [0, 1], [0, 1, 0], [0, 1, 0, 1, 0], [0, 1, 0, 1, 0, 1], [0, 1] * 500):
            self.assertFalse(self.lets(sides))
        self.assertFalse(self.lets([], (1, [])))
        self.assertFalse(self.lets([0, 0], (1, [])))
        self.assertFalse(self.lets([0] * 59, (60, [])))
        self.assertFalse(self.lets([0] * 61, (60, [])))

    def test_other_numbers(self):
        for number in (-1, 2, 3, -2, 10 ** 20, -(10 ** 20)):
            for at in range(4):
                sides = [0, 1, 0, 1]
                sides[at] = number
                self.assertFalse(self.lets(sides))
            self.assertFalse(self.lets([number], (1, [])))
            self.assertFalse(self.lets([number], (1, [])))
        self.assertFalse(self.lets([0, 1, 2, 3]))

    def test_more_ties_to_the_own_side(self):
        self.assertFalse(self.lets([0, 0, 0, 0]))
        self.assertFalse(self.lets([0, 0, 1, 0]))
        self.assertFalse(self.lets([0, 1, 0, 0]))
        self.assertFalse(self.lets([0, 0, 1, 1]))
        # The only such point is the last one, or one in the midst.
        self.assertFalse(self.lets([0, 1, 0, 1, 1], (5, [(0, 1), (1, 2), (2, 3), (3, 4)])))
        self.assertFalse(self.lets([1, 0, 0, 0, 1], (5, [(0, 1), (1, 2), (2, 3), (3, 4)])))
        self.assertTrue(self.lets([1, 0, 0, 1, 0], (5, [(0, 1), (1, 2), (2, 3), (3, 4)])))

    def test_every_small_paper(self):
        """Sides are let by just where the words say so, and then half of all ties lie across."""
        papers = [list(some) for length in range(5) for some in itertools.product((-1, 0, 1, 2), repeat=length)]
        by = 0
        for many in (1, 3):
            for web in webs_of(many):
                for sides in papers:
                    holds = len(sides) == many and set(sides) <= {0, 1} and all(
                        gain(web, sides, point) <= 0 for point in range(many))
                    self.assertIs(lets_sides(web, sides), holds)
                    if holds:
                        by += 1
                        self.assertGreaterEqual(2 * across(web, sides), len(web[1]))
        self.assertGreater(by, 20)


class Worst(SidesCase):
    def test_each_size(self):
        for size in range(1, 16):
            with self.subTest(size=size):
                told = worst_sides(size)
                self.assertIs(type(told), tuple)
                web, sides, other = told
                ties = [tie for k in range(size) for tie in (
                    (4 * k, 4 * k + 1), (4 * k, 4 * k + 3), (4 * k + 1, 4 * k + 2), (4 * k + 2, 4 * k + 3))]
                self.assertEqual(web, (4 * size, ties))
                self.assertEqual(ties, sorted(ties))
                self.assertIs(type(web), tuple)
                self.assertEqual({type(tie) for tie in web[1]}, {tuple})
                self.assert_plain((sides, other))
                self.assertEqual([len(sides), len(other)], [4 * size, 4 * size])
                self.assertEqual(set(sides) | set(other), {0, 1})

    def test_the_rule_there(self):
        for size in range(1, 16):
            web, sides, other = worst_sides(size)
            self.assertEqual(sides_by_turns(web, sides), (sides, []))
            self.assertEqual(across(web, sides), 2 * size)
            self.assertEqual(across(web, other), 4 * size)
            self.assertIs(lets_sides(web, sides), True)
            self.assertIs(lets_sides(web, other), True)


class Kept(SidesCase):
    def test_what_is_handed_in_stays(self):
        for web in LARGE:
            for sides in sides_for(web[0]):
                before = copy.deepcopy((web, sides))
                sides_by_turns(web, sides)
                across(web, sides)
                lets_sides(web, sides)
                lets_sides(web, sides + [0])
                self.assertTrue((web, sides) == before)

    def test_told_lists_are_the_askers_own(self):
        web, sides = (4, [(0, 1), (1, 2), (2, 3)]), [0, 0, 0, 0]
        first = sides_by_turns(web, sides)
        first[0][0] = 9
        first[1].append(9)
        self.assertEqual(sides_by_turns(web, sides), ([1, 0, 1, 0], [0, 2]))

    def test_told_lists_are_new_where_nothing_changes(self):
        web, sides = (2, [(0, 1)]), [0, 1]
        told = sides_by_turns(web, sides)
        told[0][0] = 1
        told[1].append(9)
        self.assertEqual(sides, [0, 1])
        self.assertEqual(sides_by_turns(web, sides), ([0, 1], []))
        told = sides_by_turns(web, sides)
        sides[0] = 1
        self.assertEqual(told, ([0, 1], []))

    def test_worst_cases_are_the_askers_own(self):
        before = copy.deepcopy(worst_sides(2))
        web, sides, other = worst_sides(2)
        web[1].clear()
        sides[0] = 9
        other.append(9)
        self.assertEqual(worst_sides(2), before)


if __name__ == "__main__":
    unittest.main()
