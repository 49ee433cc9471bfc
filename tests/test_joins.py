import copy
import itertools
import unittest
from fractions import Fraction

from nearenough.errors import NearError
from nearenough.joins import is_joining, join_by_moats, lets_joining, worst_joining
from nearenough.parted import Parted

MOST = 10 ** 12


def all_ties(many):
    return list(itertools.combinations(range(many), 2))


def webs(many):
    """All webs of so many points."""
    for picked in itertools.product((False, True), repeat=len(all_ties(many))):
        yield (many, [tie for tie, pick in zip(all_ties(many), picked) if pick])


def spread(many, length, step):
    """A web of so many points and at most so many ties, spread over all there are."""
    return (many, sorted(all_ties(many)[at * step % (many * (many - 1) // 2)] for at in range(length)))


def pair(part):
    return (part.numerator, part.denominator)


def joined(web, numbers, wish):
    """Whether a row of the numbered ties leads from the wish's one point to the other."""
    reached = {wish[0]}
    ties = [set(web[1][at]) for at in numbers]
    while any(len(tie & reached) == 1 for tie in ties):
        for tie in ties:
            if tie & reached:
                reached |= tie
    return wish[1] in reached


def joining_by_the_words(web, wishes, numbers):
    if sorted(set(numbers)) != numbers or not set(numbers) <= set(range(len(web[1]))):
        return False
    return all(joined(web, numbers, wish) for wish in wishes)


def joinings(web, wishes):
    """All joinings."""
    for length in range(len(web[1]) + 1):
        for some in itertools.combinations(range(len(web[1])), length):
            if joining_by_the_words(web, wishes, list(some)):
                yield list(some)


def weigh(weights, numbers):
    return sum(weights[at] for at in numbers)


def by_the_words(web, weights, wishes):
    """The rule step by step, with sets of points and Python's own fractions."""
    many, ties = web
    pieces = [frozenset([point]) for point in range(many)]
    widths = {piece: Fraction(0) for piece in pieces}
    taken = []

    def wants(piece):
        return any((one in piece) != (other in piece) for one, other in wishes)

    def sides(tie):
        return [piece for piece in pieces if len(piece & set(tie)) == 1]

    def lacks(at):
        return weights[at] - sum(width for piece, width in widths.items() if len(piece & set(ties[at])) == 1)

    while any(wants(piece) for piece in pieces):
        beside = {at: [piece for piece in sides(tie) if wants(piece)] for at, tie in enumerate(ties)}
        full = [at for at in beside if beside[at] and lacks(at) == 0]
        if full:
            one, other = sides(ties[full[0]])
            pieces = [piece for piece in pieces if piece not in (one, other)] + [one | other]
            widths[one | other] = Fraction(0)
            taken.append(full[0])
        else:
            step = min(Fraction(lacks(at), len(beside[at])) for at in beside if beside[at])
            for piece in pieces:
                if wants(piece):
                    widths[piece] += step
    for at in reversed(list(taken)):
        if joining_by_the_words(web, wishes, sorted(set(taken) - {at})):
            taken.remove(at)
    moats = sorted((sorted(piece), pair(width)) for piece, width in widths.items() if width > 0)
    return (sorted(taken), moats)


def lets_by_the_words(web, weights, wishes, ties, moats):
    if not joining_by_the_words(web, wishes, ties):
        return False
    for points, width in moats:
        if sorted(set(points)) != points or not set(points) <= set(range(web[0])):
            return False
        if not any(len({one} & set(points)) + len({other} & set(points)) == 1 for one, other in wishes):
            return False
        if Fraction(*width) < 0:
            return False
    for tie, weight in zip(web[1], weights):
        if sum(Fraction(*width) for points, width in moats if len(set(tie) & set(points)) == 1) > weight:
            return False
    return weigh(weights, ties) <= 2 * sum(Fraction(*width) for points, width in moats)


PATH = (3, [(0, 1), (1, 2)])

LARGE = (
    (spread(60, 400, 19), [at * 7919 % 101 for at in range(400)], [(at, 59 - at) for at in range(30)]),
    (spread(60, 400, 23), [at * at * 37 % 53 for at in range(400)], [(at, at + 1) for at in range(0, 59)]),
    (spread(60, 400, 13), [MOST - at % 3 for at in range(400)], [(0, at) for at in range(60)]),
    (spread(60, 400, 17), [0] * 400, [(0, 59), (3, 3), (0, 59)]),
    (spread(60, 200, 31), [at * 31 % 17 + 1 for at in range(200)], [(at % 7, 7 + at % 7) for at in range(60)]),
    (spread(40, 390, 7), [at * 17 % 5 for at in range(390)], []),
    ((60, [(at, at + 1) for at in range(59)]), [at * at % 11 for at in range(59)], [(0, 30), (29, 59), (5, 7)]),
    ((60, [(0, at) for at in range(1, 60)]), [1] * 59, [(1, 2), (2, 3), (58, 59)]),
)


class JoinsCase(unittest.TestCase):
    def assert_plain(self, told):
        self.assertIs(type(told), tuple)
        self.assertEqual([type(part) for part in told], [list, list])
        self.assertTrue(all(type(number) is int for number in told[0]))
        for moat in told[1]:
            self.assertIs(type(moat), tuple)
            self.assertEqual([type(part) for part in moat], [list, tuple])
            self.assertEqual(len(moat[1]), 2)
            self.assertTrue(all(type(number) is int for part in moat for number in part))


class Joinings(JoinsCase):
    def assert_is(self, web, wishes, ties):
        self.assertIs(is_joining(web, wishes, ties), True)

    def assert_none(self, web, wishes, ties):
        self.assertIs(is_joining(web, wishes, ties), False)

    def test_by_hand(self):
        self.assert_is(PATH, [(0, 2)], [0, 1])
        self.assert_none(PATH, [(0, 2)], [0])
        self.assert_none(PATH, [(0, 2)], [])
        self.assert_is(PATH, [(0, 1)], [0])
        self.assert_is(PATH, [(0, 1)], [0, 1])
        self.assert_none(PATH, [(0, 1)], [1])
        self.assert_none(PATH, [(0, 1), (1, 2)], [0])
        self.assert_none(PATH, [(0, 1), (1, 2)], [1])

    def test_rows_of_ties_in_whatever_order(self):
        web = (5, [(0, 4), (1, 3), (2, 3), (2, 4)])
        self.assert_is(web, [(0, 1)], [0, 1, 2, 3])
        for left in range(4):
            self.assert_none(web, [(0, 1)], [at for at in range(4) if at != left])

    def test_not_rising(self):
        self.assert_none(PATH, [(0, 2)], [1, 0])
        self.assert_none(PATH, [(0, 2)], [0, 0, 1])
        self.assert_none(PATH, [(0, 2)], [0, 1, 1])
        self.assert_none(PATH, [], [1, 0])
        self.assert_none(PATH, [], [0, 0])

    def test_below_nought_and_beyond(self):
        self.assert_none(PATH, [(0, 2)], [-1, 0, 1])
        self.assert_none(PATH, [(0, 2)], [-2, -1])
        self.assert_none(PATH, [(0, 2)], [0, 1, 2])
        self.assert_none(PATH, [], [MOST])
        self.assert_none((1, []), [], [0])

    def test_wishes_of_one_point_twice(self):
        self.assert_is(PATH, [(1, 1)], [])
        self.assert_is((1, []), [(0, 0)], [])
        self.assert_is(PATH, [(2, 2), (0, 0)], [0])
        self.assert_none(PATH, [(2, 2), (0, 1)], [1])

    def test_alike_wishes(self):
        self.assert_is(PATH, [(0, 2)] * 60, [0, 1])
        self.assert_none(PATH, [(0, 2)] * 60, [0])

    def test_no_wishes(self):
        for ties in ([], [0], [1], [0, 1]):
            self.assert_is(PATH, [], ties)

    def test_every_small_list_of_numbers(self):
        triangle = (3, [(0, 1), (0, 2), (1, 2)])
        for wishes in ([], [(0, 0)], [(0, 1)], [(1, 2)], [(0, 2), (1, 1)], [(0, 1), (1, 2)]):
            for web in (PATH, triangle, (4, [(0, 3), (1, 2)])):
                for length in range(4):
                    for ties in itertools.product(range(-1, 4), repeat=length):
                        told = is_joining(web, wishes, list(ties))
                        self.assertIs(told, joining_by_the_words(web, wishes, list(ties)), (web, wishes, ties))


class Refused(JoinsCase):
    def assert_parted(self, web, wishes, wish):
        weights = [1] * len(web[1])
        handed_in = copy.deepcopy((web, weights, wishes))
        with self.assertRaises(NearError) as held:
            join_by_moats(web, weights, wishes)
        self.assertIs(type(held.exception), Parted)
        self.assertEqual(held.exception.wish, wish)
        self.assertIs(type(held.exception.wish), int)
        self.assertEqual((web, weights, wishes), handed_in)

    def test_the_class(self):
        self.assertEqual(Parted.__bases__, (NearError,))
        self.assertEqual(Parted.__subclasses__(), [])
        self.assertEqual(Parted(7).wish, 7)
        self.assertIsInstance(Parted(7), ValueError)

    def test_the_first_wish_that_is_not_joined(self):
        self.assert_parted((2, []), [(0, 1)], 0)
        self.assert_parted((3, [(0, 1)]), [(0, 2)], 0)
        self.assert_parted((3, [(0, 1)]), [(0, 1), (1, 1), (0, 2), (1, 2)], 2)
        self.assert_parted((4, [(0, 1), (2, 3)]), [(0, 1), (2, 3), (1, 2), (0, 3)], 2)
        self.assert_parted((4, [(0, 1), (2, 3)]), [(0, 1)] * 59 + [(0, 3)], 59)

    def test_joined_wishes_are_not_refused(self):
        self.assertEqual(join_by_moats((2, []), [], [(0, 0), (1, 1)]), ([], []))
        self.assertEqual(join_by_moats((3, [(0, 1)]), [0], [(0, 1)])[0], [0])

    def test_every_small_web(self):
        wishes = [(0, 1), (2, 2), (1, 3), (0, 2)]
        for web in webs(4):
            lost = [wish for wish in range(4) if not joined(web, range(len(web[1])), wishes[wish])]
            if lost:
                self.assert_parted(web, wishes, lost[0])
            else:
                join_by_moats(web, [1] * len(web[1]), wishes)


class ByMoats(JoinsCase):
    def assert_told(self, web, weights, wishes, ties, moats):
        told = join_by_moats(web, weights, wishes)
        self.assertEqual(told, (ties, moats))
        self.assert_plain(told)

    def test_one_tie(self):
        self.assert_told((2, [(0, 1)]), [2], [(0, 1)], [0], [([0], (1, 1)), ([1], (1, 1))])
        self.assert_told((2, [(0, 1)]), [1], [(0, 1)], [0], [([0], (1, 2)), ([1], (1, 2))])
        self.assert_told((2, [(0, 1)]), [MOST], [(0, 1)], [0], [([0], (MOST // 2, 1)), ([1], (MOST // 2, 1))])

    def test_a_piece_that_does_not_want_does_not_grow(self):
        self.assert_told(PATH, [1, 2], [(0, 2)], [0, 1], [([0], (1, 1)), ([0, 1], (1, 2)), ([2], (3, 2))])
        self.assert_told(PATH, [2, 1], [(0, 2)], [0, 1], [([0], (3, 2)), ([1, 2], (1, 2)), ([2], (1, 1))])

    def test_growth_by_fractions(self):
        web = (4, [(0, 1), (1, 2), (2, 3)])
        self.assert_told(web, [1, 2, 1], [(0, 3), (1, 2)], [0, 1, 2], [
            ([0], (1, 2)), ([0, 1], (1, 2)), ([1], (1, 2)), ([2], (1, 2)), ([2, 3], (1, 2)), ([3], (1, 2))])
        self.assert_told(PATH, [1, 2], [(0, 1), (1, 2)], [0, 1], [
            ([0], (1, 2)), ([0, 1], (1, 2)), ([1], (1, 2)), ([2], (1, 1))])
        self.assert_told((4, [(0, 1), (1, 2), (2, 3)]), [1, 2, 4], [(0, 3), (1, 2)], [0, 1, 2], [
            ([0], (1, 2)), ([0, 1], (1, 2)), ([0, 1, 2], (1, 1)), ([1], (1, 2)), ([2], (1, 1)), ([3], (2, 1))])

    def test_ties_of_weight_nought(self):
        self.assert_told((2, [(0, 1)]), [0], [(0, 1)], [0], [])
        self.assert_told(PATH, [0, 0], [(0, 2)], [0, 1], [])
        self.assert_told(PATH, [0, 1], [(0, 2)], [0, 1], [([0, 1], (1, 2)), ([2], (1, 2))])
        self.assert_told(PATH, [0, 1], [(1, 2)], [1], [([0, 1], (1, 2)), ([2], (1, 2))])

    def test_full_ties_beside_no_wanting_piece_stay(self):
        web = (4, [(0, 1), (2, 3)])
        self.assert_told(web, [0, 1], [(2, 3)], [1], [([2], (1, 2)), ([3], (1, 2))])
        self.assert_told(web, [0, 1], [], [], [])

    def test_the_first_full_tie(self):
        ring = (4, [(0, 1), (0, 2), (1, 3), (2, 3)])
        self.assert_told(ring, [1, 1, 1, 1], [(0, 3)], [0, 2], [([0], (1, 1)), ([3], (1, 1))])
        self.assert_told(ring, [2, 1, 1, 2], [(0, 3)], [0, 2], [
            ([0], (1, 1)), ([0, 2], (1, 2)), ([1, 3], (1, 2)), ([3], (1, 1))])
        self.assert_told(ring, [3, 1, 3, 1], [(0, 3)], [1, 3], [([0], (1, 1)), ([3], (1, 1))])

    def test_ties_that_are_not_needed_are_thrown_out(self):
        star = (4, [(0, 3), (1, 3), (2, 3)])
        self.assert_told(star, [1, 1, 4], [(0, 1)], [0, 1], [([0], (1, 1)), ([1], (1, 1))])
        line = (5, [(0, 1), (1, 2), (2, 3), (3, 4)])
        self.assert_told(line, [1, 1, 5, 1], [(1, 2)], [1], [([1], (1, 2)), ([2], (1, 2))])
        self.assert_told(line, [1, 3, 1, 1], [(1, 2)], [1], [
            ([0, 1], (1, 2)), ([1], (1, 1)), ([2], (1, 1)), ([2, 3], (1, 2))])

    def test_no_wishes(self):
        self.assert_told(PATH, [1, 2], [], [], [])
        self.assert_told((1, []), [], [], [], [])
        self.assert_told(PATH, [0, 0], [(0, 0), (2, 2)], [], [])

    def test_points_that_no_tie_has(self):
        self.assert_told((5, [(1, 3)]), [3], [(1, 3), (0, 0), (4, 4)], [0], [([1], (3, 2)), ([3], (3, 2))])

    def test_alike_wishes(self):
        self.assert_told((2, [(0, 1)]), [3], [(0, 1)] * 60, [0], [([0], (3, 2)), ([1], (3, 2))])

    def test_moats_sorted_by_their_points(self):
        web = (12, [(2, 10), (3, 11)])
        self.assert_told(web, [2, 4], [(2, 10), (3, 11)], [0, 1], [
            ([2], (1, 1)), ([3], (2, 1)), ([10], (1, 1)), ([11], (2, 1))])

    def test_every_small_web(self):
        wishes = ([(0, 1)], [(0, 3)], [(1, 2), (0, 3)], [(0, 1), (0, 2), (0, 3)], [(2, 2), (1, 3)])
        for web in webs(4):
            for told in wishes:
                if not all(joined(web, range(len(web[1])), wish) for wish in told):
                    continue
                for weights in ([1] * 6, [1, 2, 3, 4, 5, 6], [3, 0, 2, 1, 0, 5], [6, 5, 3, 3, 1, 1]):
                    weights = weights[:len(web[1])]
                    paper = join_by_moats(web, weights, told)
                    self.assertEqual(paper, by_the_words(web, weights, told), (web, weights, told))
                    self.assertIs(lets_joining(web, weights, told, *paper), True)

    def test_some_webs_of_seven_points(self):
        for step in (1, 2, 4, 5, 8, 10, 11, 13):
            web = spread(7, 13, step)
            for seed in range(12):
                weights = [(at * at * 7 + at * seed + 3) % 11 for at in range(len(web[1]))]
                wishes = [(at, at + (seed + at) % 3) for at in range(5)][seed % 3:]
                if all(joined(web, range(len(web[1])), wish) for wish in wishes):
                    paper = join_by_moats(web, weights, wishes)
                    self.assertEqual(paper, by_the_words(web, weights, wishes), (web, weights, wishes))

    def test_many_points(self):
        for web, weights, wishes in LARGE:
            told = join_by_moats(web, weights, wishes)
            self.assert_plain(told)
            self.assertTrue(joining_by_the_words(web, wishes, told[0]))
            self.assertTrue(lets_by_the_words(web, weights, wishes, *told))

    def test_many_points_step_by_step(self):
        for web, weights, wishes in (LARGE[6], LARGE[7]):
            self.assertEqual(join_by_moats(web, weights, wishes), by_the_words(web, weights, wishes))


class Looker(JoinsCase):
    def assert_lets(self, web, weights, wishes, ties, moats):
        self.assertIs(lets_joining(web, weights, wishes, ties, moats), True)

    def assert_refuses(self, web, weights, wishes, ties, moats):
        self.assertIs(lets_joining(web, weights, wishes, ties, moats), False)

    def test_the_rules_own_paper(self):
        for web, weights, wishes in LARGE:
            self.assert_lets(web, weights, wishes, *join_by_moats(web, weights, wishes))

    def test_ties_that_are_no_joining(self):
        moats = [([0], (2, 1)), ([2], (2, 1))]
        self.assert_lets(PATH, [2, 2], [(0, 2)], [0, 1], moats)
        for ties in ([], [0], [1], [1, 0], [0, 0, 1], [0, 1, 2], [-1, 0, 1], [-2, -1], [0, 1, 1]):
            self.assert_refuses(PATH, [2, 2], [(0, 2)], ties, moats)

    def test_points_of_moats(self):
        self.assert_lets(PATH, [2, 2], [(0, 2)], [0, 1], [([0, 1], (2, 1))])
        for points in ([1, 0], [0, 0, 1], [0, 0], [0, 1, 1], [0, 3], [-1, 0], [-3], [3], [0, 1, MOST], [-1]):
            self.assert_refuses(PATH, [2, 2], [(0, 2)], [0, 1], [(points, (2, 1))])
            self.assert_refuses(PATH, [2, 2], [(0, 2)], [0, 1], [([0], (2, 1)), ([1, 2], (0, 1)), (points, (0, 1))])

    def test_moats_that_part_no_wish(self):
        self.assert_lets(PATH, [2, 2], [(0, 1)], [0], [([0], (2, 1))])
        for points in ([], [2], [0, 1], [0, 1, 2]):
            self.assert_refuses(PATH, [2, 2], [(0, 1)], [0], [(points, (2, 1))])
            self.assert_refuses(PATH, [2, 2], [(0, 1)], [0], [([0], (2, 1)), (points, (0, 1))])
            self.assert_refuses(PATH, [2, 2], [(0, 1), (2, 2)], [0], [(points, (2, 1))])
        self.assert_lets(PATH, [2, 2], [(0, 1), (0, 2)], [0, 1], [([0], (2, 1)), ([0, 1], (2, 1))])

    def test_moats_that_come_twice(self):
        self.assert_lets(PATH, [2, 2], [(0, 1)], [0], [([0], (1, 1)), ([0], (1, 1))])
        self.assert_lets(PATH, [2, 2], [(0, 1)], [0], [([0], (1, 2)), ([0], (1, 2))])
        self.assert_refuses(PATH, [2, 2], [(0, 1)], [0], [([0], (1, 1)), ([0], (3, 2))])
        self.assert_refuses(PATH, [2, 2], [(0, 1)], [0], [([0], (1, 3)), ([0], (1, 3))])

    def test_moats_that_cross(self):
        web = (4, [(0, 1), (1, 2), (2, 3)])
        wishes = [(0, 3)]
        self.assert_lets(web, [2, 2, 2], wishes, [0, 1, 2], [([0, 1], (1, 1)), ([0, 2], (1, 1)), ([0], (1, 1))])
        self.assert_refuses(web, [2, 2, 2], wishes, [0, 1, 2], [([0, 1], (1, 1)), ([0, 2], (2, 1))])

    def test_a_width_below_nought(self):
        self.assert_lets(PATH, [2, 2], [(0, 1)], [0], [([0], (2, 1)), ([1], (0, 1))])
        self.assert_refuses(PATH, [2, 2], [(0, 1)], [0], [([0], (2, 1)), ([1], (-1, MOST))])
        self.assert_refuses(PATH, [2, 2], [(0, 1)], [0], [([0], (2, 1)), ([0], (-1, 2))])
        self.assert_refuses(PATH, [0, 0], [(0, 1)], [0], [([0], (-1, 1))])

    def test_a_width_too_great_and_just_as_great(self):
        self.assert_lets(PATH, [2, 2], [(0, 2)], [0, 1], [([0], (2, 1)), ([0, 1], (2, 1))])
        self.assert_refuses(PATH, [2, 2], [(0, 2)], [0, 1], [([0], (2 * MOST + 1, MOST)), ([0, 1], (2, 1))])
        self.assert_refuses(PATH, [2, 2], [(0, 2)], [0, 1], [([0], (2, 1)), ([0, 1], (2 * MOST + 1, MOST))])
        self.assert_lets(PATH, [2, 2], [(0, 2)], [0, 1], [
            ([0], (2, 3)), ([2], (4, 3)), ([1, 2], (4, 3)), ([0, 1], (2, 3))])
        self.assert_refuses(PATH, [2, 2], [(0, 2)], [0, 1], [([0], (2, 3)), ([2], (4, 3)), ([1, 2], (7, 5))])

    def test_a_tie_that_is_not_taken_counts_too(self):
        triangle = (3, [(0, 1), (0, 2), (1, 2)])
        self.assert_lets(triangle, [2, 1, 2], [(0, 1)], [0], [([0], (1, 1))])
        self.assert_refuses(triangle, [2, 1, 2], [(0, 1)], [0], [([0], (2, 1))])

    def test_weights_just_twice_and_more_than_twice_all_widths(self):
        self.assert_lets(PATH, [3, 3], [(0, 2)], [0, 1], [([0], (3, 1))])
        self.assert_refuses(PATH, [3, 3], [(0, 2)], [0, 1], [([0], (3 * MOST - 1, MOST))])
        self.assert_lets(PATH, [3, 3], [(0, 2)], [0, 1], [([0], (1, 3)), ([2], (5, 3)), ([0, 1], (1, 1))])
        self.assert_refuses(PATH, [3, 3], [(0, 2)], [0, 1], [([0], (1, 3)), ([2], (5, 3)), ([0, 1], (99, 100))])
        self.assert_refuses(PATH, [3, 3], [(0, 2)], [0, 1], [])
        self.assert_refuses(PATH, [3, 3], [(0, 1)], [0, 1], [([0], (2, 1))])

    def test_no_wishes(self):
        self.assert_lets(PATH, [3, 3], [], [], [])
        self.assert_lets(PATH, [0, 3], [], [0], [])
        self.assert_refuses(PATH, [3, 3], [], [0], [])
        self.assert_refuses(PATH, [3, 3], [], [], [([0], (0, 1))])
        self.assert_lets((1, []), [], [(0, 0)], [], [])

    def test_wishes_that_all_ties_do_not_join(self):
        web = (3, [(0, 1)])
        for ties in ([], [0], [1], [0, 1]):
            for moats in ([], [([0], (1, 1))], [([2], (MOST, 1))], [([0, 1], (5, 1)), ([2], (5, 1))]):
                self.assert_refuses(web, [1], [(0, 2)], ties, moats)
                self.assert_refuses(web, [1], [(0, 1), (1, 2)], ties, moats)

    def test_many_moats(self):
        web, weights, wishes = LARGE[0]
        ties, moats = join_by_moats(web, weights, wishes)
        fine = [(list(points), pair(Fraction(*width) / 20)) for points, width in moats]
        self.assert_lets(web, weights, wishes, ties, fine * 20)
        self.assert_refuses(web, weights, wishes, ties, fine * 21)
        self.assert_refuses(web, weights, wishes, ties, fine * 3)
        unlike = [([0], (1, 10 ** 9 + at)) for at in range(300)]
        self.assert_refuses(web, weights, wishes, ties, unlike)

    def test_every_small_paper(self):
        some = [[], [0], [1], [2], [0, 1], [1, 2], [0, 2], [1, 0], [0, 3], [-1, 0], [0, 1, 2]]
        moats = [(points, width) for points in some for width in ((-1, 2), (0, 1), (1, 2), (1, 1), (2, 1))]
        lists = [list(told) for length in range(3) for told in itertools.combinations_with_replacement(moats, length)]
        for ties in ([0, 1], [0], [1, 0]):
            for wishes in ([(0, 2)], [(0, 1), (2, 2)]):
                for told in lists:
                    self.assertIs(lets_joining(PATH, [1, 2], wishes, ties, told),
                                  lets_by_the_words(PATH, [1, 2], wishes, ties, told), (wishes, ties, told))

    def test_what_is_let_by_weighs_at_most_twice_the_least(self):
        triangle = (3, [(0, 1), (0, 2), (1, 2)])
        some = [list(points) for length in (1, 2) for points in itertools.combinations(range(3), length)]
        let = 0
        for weights in itertools.product((0, 1, 3), repeat=3):
            for wishes in ([(0, 2)], [(0, 1), (1, 2)]):
                all_of_them = list(joinings(triangle, wishes))
                least = min(weigh(weights, ties) for ties in all_of_them)
                for widths in itertools.product(((0, 1), (1, 2), (1, 1)), repeat=len(some)):
                    moats = [(points, width) for points, width in zip(some, widths) if width[0]]
                    for ties in all_of_them:
                        if lets_joining(triangle, list(weights), wishes, ties, moats):
                            let += 1
                            self.assertLessEqual(weigh(weights, ties), 2 * least)
        self.assertGreater(let, 1000)


class Factors(JoinsCase):
    def test_against_all_joinings(self):
        for web in webs(4):
            for wishes in ([(0, 3)], [(0, 1), (2, 3)], [(0, 1), (0, 2), (0, 3)]):
                all_of_them = list(joinings(web, wishes))
                for weights in ([1] * 6, [2, 2, 1, 2, 1, 1], [5, 0, 2, 1, 1, 7]):
                    weights = weights[:len(web[1])]
                    if all_of_them:
                        ties = join_by_moats(web, weights, wishes)[0]
                        self.assertIn(ties, all_of_them)
                        least = min(weigh(weights, other) for other in all_of_them)
                        self.assertLessEqual(weigh(weights, ties), 2 * least)


class Worst(JoinsCase):
    def test_for_each_size(self):
        for size in range(3, 60):
            with self.subTest(size=size):
                told = worst_joining(size)
                self.assertIs(type(told), tuple)
                self.assertEqual([type(part) for part in told], [tuple, list, list, list])
                web, weights, wishes, other = told
                heavy = [(k, k + 1) for k in range(size - 1)] + [(0, size - 1)]
                light = [(k, size) for k in range(size)]
                self.assertEqual(web, (size + 1, sorted(heavy + light)))
                self.assertEqual(weights, [2 if tie in heavy else 1 for tie in web[1]])
                self.assertEqual(wishes, [(0, k) for k in range(1, size)])
                self.assertTrue(all(type(pair) is tuple for pair in web[1] + wishes))
                self.assertEqual([web[1][at] for at in other], light)
                self.assertIs(is_joining(web, wishes, other), True)
                self.assertEqual(weigh(weights, other), size)

    def test_the_rule_there(self):
        for size in range(3, 60):
            web, weights, wishes, other = worst_joining(size)
            ties, moats = join_by_moats(web, weights, wishes)
            self.assertIs(is_joining(web, wishes, ties), True)
            self.assertEqual(weigh(weights, ties), 2 * size - 2)
            self.assertIs(lets_joining(web, weights, wishes, ties, moats), True)
            self.assertIs(lets_joining(web, weights, wishes, other, moats), True)

    def test_smallest_by_hand(self):
        web = (4, [(0, 1), (0, 2), (0, 3), (1, 2), (1, 3), (2, 3)])
        self.assertEqual(worst_joining(3), (web, [2, 2, 1, 2, 1, 1], [(0, 1), (0, 2)], [2, 4, 5]))


class Kept(JoinsCase):
    def test_what_is_handed_in_stays(self):
        for web, weights, wishes in LARGE:
            handed_in = copy.deepcopy((web, weights, wishes))
            ties, moats = join_by_moats(web, weights, wishes)
            paper = copy.deepcopy((ties, moats))
            lets_joining(web, weights, wishes, ties, moats)
            is_joining(web, wishes, ties)
            self.assertTrue((web, weights, wishes) == handed_in)
            self.assertTrue((ties, moats) == paper)

    def test_told_lists_are_the_askers_own(self):
        first = join_by_moats(PATH, [1, 2], [(0, 2)])
        before = copy.deepcopy(first)
        for points, width in first[1]:
            points.append(9)
        first[0].clear()
        first[1].clear()
        self.assertEqual(join_by_moats(PATH, [1, 2], [(0, 2)]), before)
        join_by_moats(PATH, [1, 2], [])[0].append(9)
        join_by_moats(PATH, [1, 2], [])[1].append(9)
        self.assertEqual(join_by_moats(PATH, [1, 2], []), ([], []))

    def test_told_lists_stay(self):
        web, weights, wishes = (3, [(0, 1), (1, 2)]), [1, 2], [(0, 2)]
        told = join_by_moats(web, weights, wishes)
        before = copy.deepcopy(told)
        web[1].clear()
        weights.clear()
        wishes.clear()
        join_by_moats((2, [(0, 1)]), [1], [(0, 1)])
        self.assertEqual(told, before)

    def test_worst_cases_are_the_askers_own(self):
        before = copy.deepcopy(worst_joining(4))
        web, weights, wishes, other = worst_joining(4)
        for part in (web[1], weights, wishes, other):
            part.clear()
        self.assertEqual(worst_joining(4), before)


if __name__ == "__main__":
    unittest.main()
