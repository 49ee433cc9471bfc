import copy
import itertools
import unittest
from fractions import Fraction

from nearenough.fees import cost_of_tree, is_tree, lets_tree, tree_by_moats, worst_tree
from nearenough.joins import worst_joining

MOST = 10 ** 12


def all_ties(many):
    return list(itertools.combinations(range(many), 2))


def webs(many):
    """All webs of so many points."""
    for picked in itertools.product((False, True), repeat=len(all_ties(many))):
        yield (many, [tie for tie, pick in zip(all_ties(many), picked) if pick])


def spread(many, length, step):
    """A web of so many points and so many ties, spread over all there are."""
    return (many, sorted(all_ties(many)[at * step % (many * (many - 1) // 2)] for at in range(length)))


def pair(part):
    return (part.numerator, part.denominator)


def reached(web, numbers):
    """The points to which a row of the numbered ties leads from point 0."""
    points = {0}
    ties = [set(web[1][at]) for at in numbers]
    while any(len(tie & points) == 1 for tie in ties):
        for tie in ties:
            if tie & points:
                points |= tie
    return points


def tree_by_the_words(web, numbers):
    if sorted(set(numbers)) != numbers or not set(numbers) <= set(range(len(web[1]))):
        return False
    for at in numbers:
        if not set(web[1][at]) <= reached(web, numbers):
            return False
        if set(web[1][at]) <= reached(web, [other for other in numbers if other != at]):
            return False
    return True


def trees(web):
    """All trees."""
    for length in range(min(len(web[1]), web[0] - 1) + 1):
        for some in itertools.combinations(range(len(web[1])), length):
            if tree_by_the_words(web, list(some)):
                yield list(some)


def left_out(web, numbers):
    return set(range(1, web[0])) - {end for at in numbers for end in web[1][at]}


def cost(web, weights, fees, numbers):
    return sum(weights[at] for at in numbers) + sum(fees[point] for point in left_out(web, numbers))


def grown_by_the_words(web, weights, fees):
    """The rule's growing, step by step: taken ties, the last pieces, those asleep in order, and widths."""
    many, ties = web
    pieces = [frozenset([point]) for point in range(many)]
    widths = {piece: Fraction(0) for piece in pieces}
    slept = []
    taken = []

    def awake(piece):
        return 0 not in piece and piece not in slept

    def beside(at):
        return [piece for piece in pieces if len(piece & set(ties[at])) == 1]

    def lacks(at):
        return weights[at] - sum(width for piece, width in widths.items() if len(piece & set(ties[at])) == 1)

    def owes(piece):
        return sum(fees[point] for point in piece) - sum(width for own, width in widths.items() if own <= piece)

    while any(awake(piece) for piece in pieces):
        growing = [piece for piece in pieces if awake(piece)]
        between = {at: [piece for piece in beside(at) if awake(piece)] for at in range(len(ties))}
        full = [at for at in between if between[at] and lacks(at) == 0]
        tired = [piece for piece in growing if owes(piece) == 0]
        if full:
            one, other = beside(full[0])
            pieces = [piece for piece in pieces if piece not in (one, other)] + [one | other]
            widths[one | other] = Fraction(0)
            taken.append(full[0])
        elif tired:
            slept += sorted(tired, key=min)
        else:
            steps = [Fraction(lacks(at), len(between[at])) for at in between if between[at]]
            step = min(steps + [owes(piece) for piece in growing])
            for piece in growing:
                widths[piece] += step
    return (taken, pieces, slept, widths)


def by_the_words(web, weights, fees):
    ties = web[1]
    taken, pieces, slept, widths = grown_by_the_words(web, weights, fees)
    rooted = [piece for piece in pieces if 0 in piece][0]
    tree = [at for at in taken if set(ties[at]) <= rooted]
    while True:
        hanging = [piece for piece in slept if sum(len(piece & set(ties[at])) == 1 for at in tree) == 1]
        if not hanging:
            break
        tree = [at for at in tree if not hanging[0] & set(ties[at])]
    moats = sorted((sorted(piece), pair(width)) for piece, width in widths.items() if width > 0)
    return (sorted(tree), moats)


def lets_by_the_words(web, weights, fees, ties, moats):
    if not tree_by_the_words(web, ties):
        return False
    for points, width in moats:
        if not points or sorted(set(points)) != points or not set(points) <= set(range(1, web[0])):
            return False
        if Fraction(*width) < 0:
            return False
    for one, other in itertools.combinations([set(points) for points, width in moats], 2):
        if one & other and not one <= other and not other <= one:
            return False
    for tie, weight in zip(web[1], weights):
        if sum(Fraction(*width) for points, width in moats if len(set(tie) & set(points)) == 1) > weight:
            return False
    for points, width in moats:
        within = sum(Fraction(*own) for inner, own in moats if set(inner) <= set(points))
        if within > sum(fees[point] for point in points):
            return False
    told = sum(weights[at] for at in ties) + 2 * sum(fees[point] for point in left_out(web, ties))
    return told <= 2 * sum(Fraction(*width) for points, width in moats)


PATH = (3, [(0, 1), (1, 2)])
RING = (3, [(0, 1), (0, 2), (1, 2)])

LARGE = (
    (spread(60, 400, 19), [at * 7919 % 101 for at in range(400)], [at * 37 % 53 for at in range(60)]),
    (spread(60, 400, 23), [at * at * 37 % 53 for at in range(400)], [at * at % 7 for at in range(60)]),
    (spread(60, 400, 13), [MOST - at % 3 for at in range(400)], [MOST] * 60),
    (spread(60, 400, 17), [0] * 400, [0] * 60),
    (spread(60, 200, 31), [at * 31 % 17 + 1 for at in range(200)], [at * 17 % 31 for at in range(60)]),
    (spread(40, 390, 7), [at * 17 % 5 for at in range(390)], [at % 3 for at in range(40)]),
    ((60, [(at, at + 1) for at in range(59)]), [at * at % 11 for at in range(59)], [at * 7 % 13 for at in range(60)]),
    ((60, [(0, at) for at in range(1, 60)]), [at % 4 for at in range(59)], [at % 5 for at in range(60)]),
    ((60, []), [], [at % 3 for at in range(60)]),
    ((1, []), [], [MOST]),
)


class FeesCase(unittest.TestCase):
    def assert_plain(self, told):
        self.assertIs(type(told), tuple)
        self.assertEqual([type(part) for part in told], [list, list])
        self.assertTrue(all(type(number) is int for number in told[0]))
        for moat in told[1]:
            self.assertIs(type(moat), tuple)
            self.assertEqual([type(part) for part in moat], [list, tuple])
            self.assertEqual(len(moat[1]), 2)
            self.assertTrue(all(type(number) is int for part in moat for number in part))


class Trees(FeesCase):
    def assert_is(self, web, ties):
        self.assertIs(is_tree(web, ties), True)

    def assert_none(self, web, ties):
        self.assertIs(is_tree(web, ties), False)

    def test_by_hand(self):
        self.assert_is(PATH, [0])
        self.assert_is(PATH, [0, 1])
        self.assert_is(RING, [0, 1])
        self.assert_is(RING, [1, 2])

    def test_the_empty_one(self):
        self.assert_is(PATH, [])
        self.assert_is((1, []), [])
        self.assert_is((60, []), [])

    def test_not_rising(self):
        self.assert_none(PATH, [1, 0])
        self.assert_none(PATH, [0, 0])
        self.assert_none(PATH, [0, 1, 1])

    def test_below_nought_and_beyond(self):
        self.assert_none(PATH, [-1])
        self.assert_none(PATH, [-2, -1])
        self.assert_none(PATH, [-1, 0])
        self.assert_none(PATH, [2])
        self.assert_none(PATH, [0, 1, 2])
        self.assert_none(PATH, [MOST])
        self.assert_none((1, []), [0])

    def test_not_hanging_on_point_nought(self):
        self.assert_none(PATH, [1])
        self.assert_none(RING, [2])
        self.assert_none((5, [(0, 1), (2, 3), (3, 4)]), [0, 1])
        self.assert_none((5, [(0, 1), (2, 3), (3, 4)]), [1, 2])

    def test_a_ring(self):
        self.assert_none(RING, [0, 1, 2])
        self.assert_none((4, [(0, 1), (1, 2), (1, 3), (2, 3)]), [0, 1, 2, 3])
        self.assert_is((4, [(0, 1), (1, 2), (1, 3), (2, 3)]), [0, 1, 3])

    def test_a_ring_beside_what_hangs_on_point_nought(self):
        self.assert_none((4, [(1, 2), (1, 3), (2, 3)]), [0, 1, 2])
        self.assert_none((5, [(0, 1), (2, 3), (2, 4), (3, 4)]), [0, 1, 2, 3])

    def test_every_small_list_of_numbers(self):
        for web in (PATH, RING, (4, [(0, 3), (1, 2), (1, 3)])):
            for length in range(5):
                for ties in itertools.product(range(-1, 4), repeat=length):
                    self.assertIs(is_tree(web, list(ties)), tree_by_the_words(web, list(ties)), (web, ties))

    def test_every_rising_list_of_small_webs(self):
        for web in webs(4):
            for length in range(len(web[1]) + 1):
                for ties in itertools.combinations(range(len(web[1])), length):
                    self.assertIs(is_tree(web, list(ties)), tree_by_the_words(web, list(ties)), (web, ties))


class Costs(FeesCase):
    def assert_cost(self, web, weights, fees, ties, whole):
        told = cost_of_tree(web, weights, fees, ties)
        self.assertEqual(told, whole)
        self.assertIs(type(told), int)

    def test_by_hand(self):
        self.assert_cost(PATH, [10, 20], [1, 2, 4], [0, 1], 30)
        self.assert_cost(PATH, [10, 20], [1, 2, 4], [0], 14)
        self.assert_cost(RING, [10, 20, 40], [1, 2, 4], [1], 22)
        self.assert_cost(RING, [10, 20, 40], [1, 2, 4], [1, 2], 60)

    def test_the_empty_tree(self):
        self.assert_cost(PATH, [10, 20], [1, 2, 4], [], 6)
        self.assert_cost((1, []), [], [MOST], [], 0)
        self.assert_cost((60, []), [], [MOST] * 60, [], 59 * MOST)

    def test_every_small_tree(self):
        for web in webs(4):
            weights = [1, 2, 4, 8, 16, 32][:len(web[1])]
            for ties in trees(web):
                fees = [64, 128, 256, 512]
                self.assert_cost(web, weights, fees, ties, cost(web, weights, fees, ties))


class ByMoats(FeesCase):
    def assert_told(self, web, weights, fees, ties, moats):
        told = tree_by_moats(web, weights, fees)
        self.assertEqual(told, (ties, moats))
        self.assert_plain(told)

    def test_one_point(self):
        self.assert_told((1, []), [], [0], [], [])
        self.assert_told((1, []), [], [MOST], [], [])

    def test_one_tie(self):
        web = (2, [(0, 1)])
        self.assert_told(web, [2], [0, 3], [0], [([1], (2, 1))])
        self.assert_told(web, [2], [0, 1], [], [([1], (1, 1))])
        self.assert_told(web, [0], [0, 1], [0], [])
        self.assert_told(web, [MOST], [0, MOST - 1], [], [([1], (MOST - 1, 1))])

    def test_the_piece_with_point_nought_never_grows(self):
        for fee in (0, 1, MOST):
            self.assert_told((2, [(0, 1)]), [2], [fee, 3], [0], [([1], (2, 1))])
            self.assert_told(PATH, [1, 3], [fee, 9, 9], [0, 1], [([1], (1, 1)), ([2], (2, 1))])

    def test_full_ties_go_ahead_of_falling_asleep(self):
        self.assert_told((2, [(0, 1)]), [2], [0, 2], [0], [([1], (2, 1))])
        self.assert_told(PATH, [3, 2], [0, 1, 9], [0, 1], [([1], (1, 1)), ([1, 2], (2, 1)), ([2], (1, 1))])
        self.assert_told(PATH, [4, 2], [0, 1, 1], [], [([1], (1, 1)), ([2], (1, 1))])

    def test_an_asleep_piece_becomes_part_of_another(self):
        self.assert_told(PATH, [3, 4], [0, 1, 9], [0, 1], [([1], (1, 1)), ([1, 2], (2, 1)), ([2], (3, 1))])

    def test_pieces_that_have_paid_fall_asleep_all_of_them(self):
        self.assert_told((4, []), [], [0, 2, 2, 2], [], [([1], (2, 1)), ([2], (2, 1)), ([3], (2, 1))])
        self.assert_told((4, []), [], [0, 3, 1, 2], [], [([1], (3, 1)), ([2], (1, 1)), ([3], (2, 1))])

    def test_growth_by_fractions(self):
        self.assert_told((3, [(1, 2)]), [1], [0, 1, 1], [], [([1], (1, 2)), ([1, 2], (1, 1)), ([2], (1, 2))])
        web = (4, [(0, 1), (1, 2), (2, 3)])
        self.assert_told(web, [9, 1, 2], [0, 9, 9, 9], [0, 1, 2], [
            ([1], (1, 2)), ([1, 2], (1, 2)), ([1, 2, 3], (8, 1)), ([2], (1, 2)), ([3], (1, 1))])

    def test_what_hangs_by_an_asleep_piece_is_thrown_out(self):
        self.assert_told(PATH, [3, 3], [0, 9, 1], [0], [([1], (2, 1)), ([1, 2], (1, 1)), ([2], (1, 1))])

    def test_ties_within_what_is_thrown_out_go_too(self):
        web = (4, [(0, 1), (1, 2), (2, 3)])
        self.assert_told(web, [9, 5, 0], [0, 20, 1, 0], [0], [([1], (4, 1)), ([1, 2, 3], (5, 1)), ([2, 3], (1, 1))])
        self.assert_told(web, [9, 5, 2], [0, 20, 1, 2], [0], [
            ([1], (3, 1)), ([1, 2, 3], (6, 1)), ([2], (1, 1)), ([2, 3], (1, 1)), ([3], (1, 1))])

    def test_one_is_thrown_out_behind_another(self):
        web = (4, [(0, 1), (0, 2), (1, 2), (2, 3)])
        self.assert_told(web, [4, 5, 1, 2], [0, 4, 0, 0], [0], [([1], (1, 1)), ([1, 2], (2, 1)), ([1, 2, 3], (1, 1))])

    def test_an_asleep_piece_that_two_ties_leave_stays(self):
        self.assert_told(PATH, [2, 4], [0, 1, 9], [0, 1], [([1], (1, 1)), ([1, 2], (1, 1)), ([2], (3, 1))])

    def test_fees_of_nought(self):
        self.assert_told(PATH, [1, 1], [0, 0, 0], [], [])
        self.assert_told(PATH, [0, 0], [0, 0, 0], [0, 1], [])
        self.assert_told(PATH, [0, 1], [0, 0, 0], [0], [])
        self.assert_told(PATH, [1, 1], [0, 0, 5], [0, 1], [([1, 2], (1, 1)), ([2], (1, 1))])

    def test_points_that_no_tie_has(self):
        self.assert_told((4, [(0, 2)]), [1], [0, 3, 5, 0], [0], [([1], (3, 1)), ([2], (1, 1))])

    def test_what_does_not_hang_on_point_nought_is_no_tree(self):
        self.assert_told((4, [(1, 2), (2, 3)]), [0, 2], [0, 5, 5, 5], [], [
            ([1, 2], (1, 1)), ([1, 2, 3], (13, 1)), ([3], (1, 1))])

    def test_every_small_web(self):
        for web in webs(4):
            for fees in ([0, 1, 1, 1], [0, 1, 2, 3], [5, 3, 0, 2], [1, 9, 9, 1], [0, 2, 4, 9], [0, 9, 9, 9]):
                for weights in ([1] * 6, [1, 2, 3, 4, 5, 6], [3, 0, 2, 1, 0, 5], [6, 5, 4, 3, 1, 1], [4, 2, 4, 2, 4, 2],
                                [9, 5, 5, 4, 2, 0]):
                    weights = weights[:len(web[1])]
                    paper = tree_by_moats(web, weights, fees)
                    self.assertEqual(paper, by_the_words(web, weights, fees), (web, weights, fees))
                    self.assertIs(lets_tree(web, weights, fees, *paper), True)

    def test_some_webs_of_seven_points(self):
        for step in (1, 2, 4, 5, 8, 10, 11, 13):
            for length in (7, 12):
                web = spread(7, length, step)
                for seed in range(12):
                    weights = [(at * at * 7 + at * seed + 3) % 11 for at in range(length)]
                    fees = [(point * 5 + point * point * seed) % (4 + seed) for point in range(7)]
                    paper = tree_by_moats(web, weights, fees)
                    self.assertEqual(paper, by_the_words(web, weights, fees), (web, weights, fees))

    def test_many_points(self):
        for web, weights, fees in LARGE:
            told = tree_by_moats(web, weights, fees)
            self.assert_plain(told)
            self.assertTrue(tree_by_the_words(web, told[0]))
            self.assertTrue(lets_by_the_words(web, weights, fees, *told))

    def test_many_points_step_by_step(self):
        for web, weights, fees in LARGE[6:]:
            self.assertEqual(tree_by_moats(web, weights, fees), by_the_words(web, weights, fees))


class Looker(FeesCase):
    def assert_lets(self, web, weights, fees, ties, moats):
        self.assertIs(lets_tree(web, weights, fees, ties, moats), True)

    def assert_refuses(self, web, weights, fees, ties, moats):
        self.assertIs(lets_tree(web, weights, fees, ties, moats), False)

    def test_the_rules_own_paper(self):
        for web, weights, fees in LARGE:
            self.assert_lets(web, weights, fees, *tree_by_moats(web, weights, fees))

    def test_ties_that_are_no_tree(self):
        moats = [([1], (1, 1)), ([2], (1, 1))]
        self.assert_lets(RING, [1, 1, 1], [0, 1, 1], [0, 1], [([1], (1, 2)), ([2], (1, 2))])
        for ties in ([2], [1, 0], [0, 0], [0, 1, 2], [-1], [-1, 0], [3], [0, 3], [0, 1, 1]):
            self.assert_refuses(RING, [0, 0, 0], [0, 0, 0], ties, [])
            self.assert_refuses(RING, [1, 1, 2], [0, 1, 1], ties, moats)
        for ties in ([], [0], [1], [0, 1], [0, 2], [1, 2]):
            self.assert_lets(RING, [0, 0, 0], [0, 0, 0], ties, [])

    def test_points_of_moats(self):
        self.assert_lets(RING, [2, 2, 2], [0, 2, 2], [0], [([1], (1, 1)), ([2], (1, 1)), ([1, 2], (1, 1))])
        for points in ([], [0], [0, 1], [0, 1, 2], [1, 3], [3], [-1], [-1, 1], [2, 1], [1, 1], [1, 2, 2], [MOST]):
            self.assert_refuses(RING, [2, 2, 2], [0, 2, 2], [0], [
                ([1], (1, 1)), ([2], (1, 1)), ([1, 2], (1, 1)), (points, (0, 1))])
            self.assert_refuses(RING, [0, 0, 0], [0, 0, 0], [], [(points, (0, 1))])
            self.assert_refuses((3, []), [], [9, 0, 0], [], [(points, (9, 1))])

    def test_moats_that_cross(self):
        web = (4, [])
        fees = [0, 1, 1, 1]
        self.assert_lets(web, [], fees, [], [([1], (1, 1)), ([1, 2], (1, 1)), ([3], (1, 1))])
        self.assert_lets(web, [], fees, [], [([1, 2], (1, 1)), ([1, 2, 3], (2, 1))])
        self.assert_lets(web, [], fees, [], [([1, 2, 3], (2, 1)), ([1, 3], (1, 1))])
        self.assert_refuses(web, [], fees, [], [([1, 2], (1, 1)), ([2, 3], (1, 1)), ([1, 2, 3], (1, 1))])
        self.assert_refuses(web, [], fees, [], [([1, 2], (0, 1)), ([2, 3], (0, 1)), ([1, 2, 3], (3, 1))])
        self.assert_refuses(web, [], fees, [], [([1, 2], (1, 1)), ([3], (1, 1)), ([1], (1, 1)), ([1, 3], (0, 1))])

    def test_moats_that_come_twice(self):
        web = (2, [(0, 1)])
        self.assert_lets(web, [2], [0, 2], [0], [([1], (1, 1)), ([1], (1, 1))])
        self.assert_lets(web, [2], [0, 2], [0], [([1], (1, 2)), ([1], (1, 2))])
        self.assert_refuses(web, [2], [0, 9], [0], [([1], (1, 1)), ([1], (3, 2))])
        self.assert_refuses(web, [9], [0, 2], [], [([1], (1, 1)), ([1], (3, 2))])
        self.assert_refuses(web, [2], [0, 2], [0], [([1], (1, 3)), ([1], (1, 3))])
        self.assert_lets((3, []), [], [0, 1, 1], [], [([1, 2], (1, 2))] * 4)
        self.assert_refuses((3, []), [], [0, 1, 1], [], [([1, 2], (1, 2))] * 5)

    def test_a_width_below_nought(self):
        web = (2, [(0, 1)])
        self.assert_lets(web, [2], [0, 2], [0], [([1], (1, 1)), ([1], (0, 1))])
        self.assert_refuses(web, [2], [0, 2], [0], [([1], (2, 1)), ([1], (-1, MOST))])
        self.assert_refuses(web, [0], [0, 0], [], [([1], (-1, 1))])

    def test_too_much_at_a_tie_and_just_as_much(self):
        self.assert_lets(PATH, [2, 2], [0, 9, 9], [0, 1], [([2], (2, 1)), ([1, 2], (2, 1))])
        self.assert_refuses(PATH, [2, 2], [0, 9, 9], [0, 1], [([2], (2 * MOST + 1, MOST)), ([1, 2], (2, 1))])
        self.assert_refuses(PATH, [2, 2], [0, 9, 9], [0, 1], [([2], (2, 1)), ([1, 2], (2 * MOST + 1, MOST))])
        self.assert_lets(PATH, [2, 2], [0, 9, 9], [0, 1], [([1], (2, 3)), ([2], (4, 3)), ([1, 2], (4, 3))])
        self.assert_refuses(PATH, [2, 2], [0, 9, 9], [0, 1], [([1], (2, 3)), ([2], (7, 5)), ([1, 2], (4, 3))])

    def test_a_tie_that_is_not_taken_counts_too(self):
        self.assert_lets(RING, [2, 9, 1], [0, 9, 0], [0], [([1], (1, 1))])
        self.assert_refuses(RING, [2, 9, 1], [0, 9, 0], [0], [([1], (2, 1))])

    def test_too_much_in_a_moat_and_just_as_much(self):
        web = (3, [])
        self.assert_lets(web, [], [0, 2, 3], [], [([1], (2, 1)), ([2], (3, 1))])
        self.assert_refuses(web, [], [0, 2, 3], [], [([1], (2 * MOST + 1, MOST)), ([2], (3, 1))])
        self.assert_lets(web, [], [0, 2, 3], [], [([1], (1, 1)), ([2], (1, 2)), ([1, 2], (7, 2))])
        self.assert_refuses(web, [], [0, 2, 3], [], [([1], (1, 1)), ([2], (1, 2)), ([1, 2], (18, 5))])
        self.assert_refuses(web, [], [0, 2, 3], [], [([1], (5, 2)), ([1, 2], (5, 2))])

    def test_the_fee_of_point_nought_does_not_count(self):
        self.assert_lets((2, [(0, 1)]), [2], [MOST, 2], [0], [([1], (1, 1))])
        self.assert_lets((2, [(0, 1)]), [5], [MOST, 2], [], [([1], (2, 1))])
        self.assert_lets((1, []), [], [MOST], [], [])

    def test_just_twice_and_more_than_twice_all_widths(self):
        self.assert_lets(PATH, [3, 3], [0, 9, 9], [0, 1], [([2], (3, 1))])
        self.assert_refuses(PATH, [3, 3], [0, 9, 9], [0, 1], [([2], (3 * MOST - 1, MOST))])
        self.assert_lets(PATH, [4, 9], [0, 5, 2], [0], [([1], (2, 1)), ([2], (2, 1))])
        self.assert_refuses(PATH, [4, 9], [0, 5, 2], [0], [([1], (2, 1)), ([2], (2 * MOST - 1, MOST))])
        self.assert_refuses(PATH, [4, 9], [0, 5, 2], [0], [([1], (1, 1)), ([2], (2, 1))])
        self.assert_refuses(PATH, [4, 9], [0, 5, 2], [0], [([1], (3, 1))])
        self.assert_lets(PATH, [4, 9], [0, 5, 2], [0], [([1], (2, 1)), ([1, 2], (2, 1))])
        self.assert_refuses(PATH, [3, 3], [0, 9, 9], [0, 1], [])
        self.assert_refuses(PATH, [3, 3], [0, 9, 9], [], [])

    def test_many_moats(self):
        web, weights, fees = LARGE[0]
        ties, moats = tree_by_moats(web, weights, fees)
        fine = [(list(points), pair(Fraction(*width) / 20)) for points, width in moats]
        self.assert_lets(web, weights, fees, ties, fine * 20)
        self.assert_refuses(web, weights, fees, ties, fine * 21)
        self.assert_refuses(web, weights, fees, ties, fine * 3)
        self.assert_refuses(web, weights, fees, ties, [([1], (1, 10 ** 9 + at)) for at in range(300)])
        self.assert_refuses(web, weights, fees, ties, [([at % 58 + 1, 59], (0, 1)) for at in range(3000)])

    def test_every_small_paper(self):
        some = [[], [0], [1], [2], [3], [1, 2], [2, 3], [1, 2, 3], [2, 1], [0, 1], [1, 4], [-1, 1]]
        moats = [(points, width) for points in some for width in ((-1, 2), (0, 1), (1, 2), (1, 1))]
        lists = [list(told) for length in range(3) for told in itertools.combinations_with_replacement(moats, length)]
        web = (4, [(0, 1), (1, 2), (1, 3)])
        for weights, fees in (([1, 2, 1], [0, 1, 1, 0]), ([1, 0, 1], [3, 0, 1, 1])):
            for ties in ([], [0], [0, 2], [1, 2]):
                for told in lists:
                    self.assertIs(lets_tree(web, weights, fees, ties, told),
                                  lets_by_the_words(web, weights, fees, ties, told), (weights, fees, ties, told))

    def test_what_is_let_by_costs_at_most_twice_the_least(self):
        let = 0
        all_of_them = list(trees(RING))
        for weights in itertools.product((0, 1, 3), repeat=3):
            for fees in itertools.product((0, 1, 2), repeat=2):
                fees = [0] + list(fees)
                least = min(cost(RING, weights, fees, ties) for ties in all_of_them)
                for widths in itertools.product(((0, 1), (1, 2), (1, 1), (2, 1)), repeat=3):
                    moats = [told for told in zip(([1], [2], [1, 2]), widths) if told[1][0]]
                    for ties in all_of_them:
                        if lets_tree(RING, list(weights), fees, ties, moats):
                            let += 1
                            self.assertLessEqual(cost(RING, weights, fees, ties), 2 * least)
        self.assertGreater(let, 1000)


class Factors(FeesCase):
    def test_against_all_trees(self):
        for web in webs(4):
            all_of_them = list(trees(web))
            for fees in ([0, 1, 1, 1], [0, 4, 1, 2], [7, 9, 9, 9]):
                for weights in ([1] * 6, [2, 2, 1, 2, 1, 1], [5, 0, 2, 1, 1, 7]):
                    weights = weights[:len(web[1])]
                    ties = tree_by_moats(web, weights, fees)[0]
                    self.assertIn(ties, all_of_them)
                    least = min(cost(web, weights, fees, other) for other in all_of_them)
                    self.assertLessEqual(cost(web, weights, fees, ties), 2 * least)


class Worst(FeesCase):
    def test_for_each_size(self):
        for size in range(3, 60):
            with self.subTest(size=size):
                told = worst_tree(size)
                self.assertIs(type(told), tuple)
                self.assertEqual([type(part) for part in told], [tuple, list, list, list])
                web, weights, fees, other = told
                self.assertEqual((web, weights), worst_joining(size)[:2])
                self.assertEqual(fees, [2] * size + [0])
                self.assertEqual([web[1][at] for at in other], [(k, size) for k in range(size)])
                self.assertTrue(tree_by_the_words(web, other))
                self.assertIs(is_tree(web, other), True)
                self.assertEqual(cost(web, weights, fees, other), size)
                self.assertEqual(cost_of_tree(web, weights, fees, other), size)

    def test_the_rule_there(self):
        for size in range(3, 60):
            web, weights, fees, other = worst_tree(size)
            ties, moats = tree_by_moats(web, weights, fees)
            self.assertIs(is_tree(web, ties), True)
            self.assertEqual(cost_of_tree(web, weights, fees, ties), 2 * size - 2)
            self.assertIs(lets_tree(web, weights, fees, ties, moats), True)
            self.assertIs(lets_tree(web, weights, fees, other, moats), True)

    def test_smallest_by_hand(self):
        web = (4, [(0, 1), (0, 2), (0, 3), (1, 2), (1, 3), (2, 3)])
        self.assertEqual(worst_tree(3), (web, [2, 2, 1, 2, 1, 1], [2, 2, 2, 0], [2, 4, 5]))


class Kept(FeesCase):
    def test_what_is_handed_in_stays(self):
        for web, weights, fees in LARGE:
            handed_in = copy.deepcopy((web, weights, fees))
            ties, moats = tree_by_moats(web, weights, fees)
            paper = copy.deepcopy((ties, moats))
            lets_tree(web, weights, fees, ties, moats)
            is_tree(web, ties)
            cost_of_tree(web, weights, fees, ties)
            self.assertTrue((web, weights, fees) == handed_in)
            self.assertTrue((ties, moats) == paper)

    def test_told_lists_are_the_askers_own(self):
        for fees in ([0, 9, 9], [0, 9, 1], [0, 0, 0]):
            first = tree_by_moats(PATH, [3, 3], fees)
            before = copy.deepcopy(first)
            for points, width in first[1]:
                points.append(9)
            first[0].append(9)
            first[1].append(9)
            self.assertEqual(tree_by_moats(PATH, [3, 3], fees), before)

    def test_told_lists_stay(self):
        web, weights, fees = (3, [(0, 1), (1, 2)]), [3, 3], [0, 9, 1]
        told = tree_by_moats(web, weights, fees)
        before = copy.deepcopy(told)
        web[1].clear()
        weights.clear()
        fees.clear()
        tree_by_moats((2, [(0, 1)]), [1], [1, 1])
        self.assertEqual(told, before)

    def test_worst_cases_are_the_askers_own(self):
        before = copy.deepcopy(worst_tree(4))
        web, weights, fees, other = worst_tree(4)
        for part in (web[1], weights, fees, other):
            part.clear()
        self.assertEqual(worst_tree(4), before)


if __name__ == "__main__":
    unittest.main()
