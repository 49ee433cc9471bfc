"""What holds over the whole program: the interface, told lists, and papers as other hands might write them."""

import copy
import importlib
import inspect
import itertools
import unittest

from nearenough.benches import (
    deal_by_length, deal_in_order, load_bound, load_of, worst_by_length, worst_in_order)
from nearenough.boxes import fewest, fill_first, fill_last, is_filling, worst_first, worst_last
from nearenough.centres import centres_apart, lets_centres, reach_of, worst_centres
from nearenough.choosing import choose_by_new, lets_choice, worst_choice
from nearenough.covers import cover_by_price, lets_cover, worst_cover
from nearenough.desk import Desk
from nearenough.fees import cost_of_tree, is_tree, lets_tree, tree_by_moats, worst_tree
from nearenough.fractions import fraction, harmonic, less, minus, plus, times
from nearenough.joins import is_joining, join_by_moats, lets_joining, worst_joining
from nearenough.matches import lets_match, match_by_weight, worst_match
from nearenough.pages import misses, misses_ahead, stretches, worst_asks
from nearenough.sacks import lets_packing, pack, worst_packing
from nearenough.sides import across, lets_sides, sides_by_turns, worst_sides
from nearenough.tours import are_roads, length_of, lets_tour, tour_by_tree, worst_tour
from nearenough.webs import number_of, read_web, shown_web, ties_of

MOST = 10 ** 12
WEB = (5, [(0, 1), (0, 2), (1, 2), (1, 4), (2, 3)])
ROADS = [[0, 1, 3, 9], [1, 0, 2, 8], [3, 2, 0, 6], [9, 8, 6, 0]]
SETS = [[0, 1], [1, 2, 3], [3], [], [0, 4]]
THINGS = [(3, 5), (4, 3), (5, 4), (9, 11)]

# How many arguments each name of the interface takes.
INTERFACE = {
    "fractions": {"fraction": 2, "plus": 2, "minus": 2, "times": 2, "less": 2, "harmonic": 1},
    "webs": {"number_of": 1, "read_web": 1, "shown_web": 1, "ties_of": 2},
    "covers": {"cover_by_price": 2, "lets_cover": 4, "worst_cover": 1},
    "matches": {"match_by_weight": 2, "lets_match": 4, "worst_match": 1},
    "sides": {"sides_by_turns": 2, "across": 2, "lets_sides": 2, "worst_sides": 1},
    "tours": {"are_roads": 1, "length_of": 2, "tour_by_tree": 1, "lets_tour": 3, "worst_tour": 1},
    "centres": {"reach_of": 2, "centres_apart": 2, "lets_centres": 4, "worst_centres": 1},
    "choosing": {"choose_by_new": 2, "lets_choice": 4, "worst_choice": 1},
    "benches": {"deal_in_order": 2, "deal_by_length": 2, "load_of": 3, "load_bound": 2,
                "worst_in_order": 1, "worst_by_length": 1},
    "boxes": {"fill_last": 2, "fill_first": 2, "is_filling": 3, "fewest": 2, "worst_last": 1, "worst_first": 1},
    "sacks": {"pack": 2, "lets_packing": 4, "worst_packing": 1},
    "pages": {"misses": 2, "misses_ahead": 2, "stretches": 2, "worst_asks": 2},
    "joins": {"is_joining": 3, "join_by_moats": 3, "lets_joining": 5, "worst_joining": 1},
    "fees": {"is_tree": 2, "cost_of_tree": 4, "tree_by_moats": 3, "lets_tree": 5, "worst_tree": 1},
    "errors": {"NearError": None, "NoWeb": 1, "Lacking": 1, "NoName": None, "NoRow": None},
    "parted": {"Parted": 1},
    "desk": {"Desk": 0},
}

# Each rule with what is handed in, and its looker with what is handed in ahead of the paper.
RULES = (
    (cover_by_price, lets_cover, (WEB, [3, 5, 4, 1, 2])),
    (match_by_weight, lets_match, (WEB, [2, 3, 2, 1, 5])),
    (tour_by_tree, lets_tour, (ROADS,)),
    (centres_apart, lets_centres, (ROADS, 2)),
    (choose_by_new, lets_choice, (5, SETS)),
    (pack, lets_packing, (10, THINGS)),
    (join_by_moats, lets_joining, (WEB, [2, 3, 2, 1, 5], [(0, 4), (1, 3), (2, 2)])),
    (tree_by_moats, lets_tree, (WEB, [2, 3, 2, 1, 5], [0, 4, 1, 3, 9])),
)

# What else tells something, with what is handed in.
OTHERS = (
    (fraction, (4, -6)), (plus, ((1, 2), (1, 3))), (minus, ((1, 2), (1, 3))), (times, ((1, 2), (2, 3))),
    (less, ((1, 2), (2, 3))), (harmonic, (4,)),
    (number_of, ("12",)), (read_web, ("points 3\ntie 0 1\ntie 1 2",)), (shown_web, (WEB,)), (ties_of, (WEB, 1)),
    (sides_by_turns, (WEB, [0, 0, 0, 0, 0])), (across, (WEB, [0, 1, 0, 1, 0])), (lets_sides, (WEB, [0, 1, 0, 1, 0])),
    (are_roads, (ROADS,)), (length_of, (ROADS, [0, 2, 1, 3])), (reach_of, (ROADS, [1, 3, 1])),
    (deal_in_order, ([3, 1, 2], 2)), (deal_by_length, ([3, 1, 2], 2)), (load_of, ([3, 1, 2], 2, [0, 1, 0])),
    (load_bound, ([3, 1, 2], 2)),
    (fill_last, (10, [5, 6, 5])), (fill_first, (10, [5, 6, 5])), (is_filling, (10, [5, 6, 5], [0, 1, 0])),
    (fewest, (10, [5, 6, 5])),
    (misses, (2, [1, 2, 3, 1])), (misses_ahead, (2, [1, 2, 3, 1])), (stretches, (2, [1, 2, 3, 1])),
    (is_joining, (WEB, [(0, 4)], [0, 3])), (is_tree, (WEB, [0, 3])),
    (cost_of_tree, (WEB, [2, 3, 2, 1, 5], [0, 4, 1, 3, 9], [0, 3])),
    (worst_cover, (3,)), (worst_match, (3,)), (worst_sides, (3,)), (worst_tour, (3,)), (worst_centres, (3,)),
    (worst_choice, (3,)), (worst_in_order, (3,)), (worst_by_length, (3,)), (worst_last, (3,)), (worst_first, (3,)),
    (worst_packing, (3,)), (worst_asks, (3, 3)), (worst_joining, (3,)), (worst_tree, (3,)),
)

EMPTY = (
    (cover_by_price, ((1, []), [0])), (match_by_weight, ((1, []), [])), (sides_by_turns, ((1, []), [0])),
    (tour_by_tree, ([[0]],)), (centres_apart, ([[0]], 1)), (deal_in_order, ([], 1)), (deal_by_length, ([], 1)),
    (fill_last, (1, [])), (fill_first, (1, [])), (pack, (1, [])), (misses, (1, [])), (misses_ahead, (1, [])),
    (stretches, (1, [])), (join_by_moats, ((1, []), [], [])), (tree_by_moats, ((1, []), [], [0])),
    (ties_of, ((1, []), 0)), (read_web, ("points 1",)),
)

# Lookers that are told a list alone, with what is handed in ahead of it.
SHORT_LOOKERS = (
    (lets_sides, (WEB,), [0, 1, 0, 1, 0]),
    (is_filling, (10, [5, 6, 5]), [0, 1, 0]),
    (is_joining, (WEB, [(0, 4), (1, 3)]), [0, 2, 3, 4]),
    (is_tree, (WEB,), [0, 3]),
)

NUMBERS = (-MOST, -2, -1, 0, 1, 2, 3, 4, 5, 59, 60, MOST, 10 ** 40)
PARTS = ((-1, 1), (-1, 3), (0, 1), (1, 3), (1, 1), (7, 2), (MOST, 1), (1, 10 ** 40), (10 ** 40, 1))


def spoil(told):
    """Changes all lists within what is told."""
    if isinstance(told, (list, tuple)):
        for part in told:
            spoil(part)
    if isinstance(told, list):
        told.append("spoiled")
        told.reverse()


def is_pair(told):
    return isinstance(told, tuple) and len(told) == 2 and all(type(part) is int for part in told)


def others_of(told, fractions):
    """What stands in the stead of a paper's part, of the same form: other numbers, and lists of other lengths."""
    if type(told) is int:
        return list(NUMBERS)
    if fractions and is_pair(told):
        return list(PARTS)
    varied = []
    for at, part in enumerate(told):
        for other in others_of(part, fractions):
            varied.append(type(told)(list(told[:at]) + [other] + list(told[at + 1:])))
    if type(told) is list:
        varied += [[], told[1:], told[:-1], told[::-1], told + told, told * 30, told[:1] * 70]
    return varied


class Interface(unittest.TestCase):
    def test_names_and_arguments(self):
        for module, names in INTERFACE.items():
            found = importlib.import_module("nearenough." + module)
            for name, many in names.items():
                with self.subTest(module=module, name=name):
                    told = getattr(found, name)
                    if many is not None:
                        inspect.signature(told).bind(*[None] * many)
                        self.assertEqual(len(inspect.signature(told).parameters), many)
        inspect.signature(Desk().say).bind("row")

    def test_own_pieces(self):
        importlib.import_module("nearenough.pieces")


class Kept(unittest.TestCase):
    def calls(self):
        return [(rule, handed_in) for rule, looker, handed_in in RULES] + list(OTHERS) + list(EMPTY)

    def test_what_is_handed_in_stays(self):
        for told, handed_in in self.calls():
            with self.subTest(told=told.__name__):
                own = copy.deepcopy(handed_in)
                told(*own)
                self.assertEqual(own, handed_in)

    def test_told_lists_changed_by_the_asker_change_nothing_told_later(self):
        for told, handed_in in self.calls():
            with self.subTest(told=told.__name__):
                own = copy.deepcopy(handed_in)
                first = told(*own)
                before = copy.deepcopy(first)
                spoil(first)
                self.assertEqual(own, handed_in)
                self.assertEqual(told(*own), before)
                self.assertEqual(told(*copy.deepcopy(handed_in)), before)

    def test_told_lists_are_not_what_was_handed_in(self):
        for told, handed_in in self.calls():
            with self.subTest(told=told.__name__):
                own = copy.deepcopy(handed_in)
                first = told(*own)
                before = copy.deepcopy(first)
                spoil(own)
                self.assertEqual(first, before)

    def test_lists_within_what_is_told_are_apart_from_one_another(self):
        for told, handed_in in self.calls():
            with self.subTest(told=told.__name__):
                seen = []
                waiting = [told(*handed_in)]
                while waiting:
                    part = waiting.pop()
                    if isinstance(part, (list, tuple)):
                        waiting.extend(part)
                    if isinstance(part, list):
                        self.assertFalse(any(part is other for other in seen))
                        seen.append(part)

    def test_asking_in_between_changes_nothing(self):
        first = [copy.deepcopy(told(*handed_in)) for told, handed_in in self.calls()]
        again = [told(*handed_in) for told, handed_in in reversed(self.calls())][::-1]
        self.assertEqual(first, again)

    def test_lookers_change_no_paper(self):
        for rule, looker, handed_in in RULES:
            with self.subTest(looker=looker.__name__):
                own = copy.deepcopy(handed_in + rule(*handed_in))
                before = copy.deepcopy(own)
                looker(*own)
                self.assertEqual(own, before)


class Promise(unittest.TestCase):
    def test_each_rules_paper_is_let_by(self):
        for rule, looker, handed_in in RULES:
            with self.subTest(looker=looker.__name__):
                self.assertIs(looker(*handed_in, *rule(*handed_in)), True)

    def test_the_rules_sides_are_let_by(self):
        for sides in itertools.product((0, 1), repeat=5):
            self.assertIs(lets_sides(WEB, sides_by_turns(WEB, list(sides))[0]), True)


class OtherHands(unittest.TestCase):
    def assert_told(self, looker, *handed_in):
        before = copy.deepcopy(handed_in)
        self.assertIn(looker(*handed_in), (True, False))
        self.assertIs(type(looker(*handed_in)), bool)
        self.assertTrue(handed_in == before)

    def test_papers_with_other_numbers_and_other_lengths(self):
        for rule, looker, handed_in in RULES:
            one, other = rule(*handed_in)
            # Tours alone have tuples of two whole numbers that are no fractions.
            fractions = looker is not lets_tour
            with self.subTest(looker=looker.__name__):
                for varied in others_of(one, fractions):
                    self.assert_told(looker, *handed_in, varied, other)
                for varied in others_of(other, fractions):
                    self.assert_told(looker, *handed_in, one, varied)

    def test_lists_alone_with_other_numbers_and_other_lengths(self):
        for looker, handed_in, paper in SHORT_LOOKERS:
            with self.subTest(looker=looker.__name__):
                self.assertIs(looker(*handed_in, paper), True)
                for varied in others_of(paper, False):
                    self.assert_told(looker, *handed_in, varied)

    def test_roads_with_other_numbers_and_other_lengths(self):
        for varied in others_of(ROADS, False) + [[], [[]], [[], []], [[0]], [[1]], [[-1]], [[0, 0]], [[0], [0]]]:
            self.assert_told(are_roads, varied)

    def test_empty_papers(self):
        for rule, looker, handed_in in RULES:
            if looker is lets_packing:
                self.assert_told(looker, *handed_in, [], (0, 1))
            else:
                self.assert_told(looker, *handed_in, [], [])

    def test_papers_of_the_least_things(self):
        for looker, handed_in in ((lets_cover, ((1, []), [0])), (lets_match, ((1, []), [])), (lets_tour, ([[0]],)),
                                  (lets_centres, ([[0]], 1)), (lets_choice, (1, [[0]])),
                                  (lets_joining, ((1, []), [], [])), (lets_tree, ((1, []), [], [0]))):
            for one in ([], [0], [-1], [1], [0, 0], [0, 1]):
                self.assert_told(looker, *handed_in, one, [])
                if looker in (lets_cover, lets_match, lets_centres):
                    for other in ([0], [-1], [1], [0, 0]):
                        self.assert_told(looker, *handed_in, one, other)


class DeskKept(unittest.TestCase):
    def test_answers_do_not_hang_on_what_was_asked_before(self):
        rows = ("cover a 3,5,4,1", "match a 2,3,2", "sides a 0000", "deal 2 1,1,1", "dealbig 2 1,2,3", "boxes 10 5,6,5",
                "boxesfirst 10 5,6,5", "sack 10 5/3,7/8", "pages 2 1,2,3,1", "pagesahead 2 1,2,3,1",
                "stretches 2 1,2,3,1")
        desk = Desk()
        desk.say("web a 4 0-1,1-2,2-3")
        first = [desk.say(row) for row in rows]
        again = [desk.say(row) for row in reversed(rows)][::-1]
        self.assertEqual(first, again)


if __name__ == "__main__":
    unittest.main()
