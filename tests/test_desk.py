import itertools
import unittest

from nearenough.benches import deal_by_length, deal_in_order, load_bound, load_of
from nearenough.boxes import fewest, fill_first, fill_last
from nearenough.covers import cover_by_price
from nearenough.desk import Desk
from nearenough.errors import NearError, NoName, NoRow, NoWeb
from nearenough.matches import match_by_weight
from nearenough.pages import misses, misses_ahead, stretches
from nearenough.sacks import pack
from nearenough.sides import sides_by_turns

PATH = "web a 4 0-1,1-2,2-3"
MOST = 999999999999


def listed(numbers):
    """A list as an answer tells it."""
    return " ".join(str(number) for number in numbers) or "-"


def worded(numbers):
    """A list as a row tells it."""
    return ",".join(str(number) for number in numbers) or "-"


def parted(part):
    """A fraction as an answer tells it."""
    return str(part[0]) if part[1] == 1 else f"{part[0]}/{part[1]}"


def tied(ties):
    return ",".join(f"{one}-{other}" for one, other in ties) or "-"


def all_ties(many):
    return list(itertools.combinations(range(many), 2))


class DeskCase(unittest.TestCase):
    def setUp(self):
        self.desk = Desk()
        self.assert_told(PATH, "ok")

    def assert_told(self, row, answer):
        told = self.desk.say(row)
        self.assertEqual(told, answer)
        self.assertIs(type(told), str)

    def assert_unchanged(self):
        self.assert_told("cover a 3,5,4,1", "0 1 3 | 3 2 1")

    def assert_refused(self, row, refusal):
        with self.assertRaises(NearError, msg=row) as held:
            self.desk.say(row)
        self.assertIs(type(held.exception), refusal, row)
        if refusal is NoWeb:
            self.assertEqual(held.exception.row, 0)
            self.assertIs(type(held.exception.row), int)
        self.assert_unchanged()

    def assert_no_row(self, *rows):
        for row in rows:
            self.assert_refused(row, NoRow)

    def assert_no_name(self, *rows):
        for row in rows:
            self.assert_refused(row, NoName)

    def assert_no_web(self, *rows):
        for row in rows:
            self.assert_refused(row, NoWeb)


class Webs(DeskCase):
    def test_names(self):
        for name in ("b", "z", "ab", "abcdefgh", "web", "cover", "zzzzzzzz"):
            self.assert_told(f"web {name} 2 0-1", "ok")
            self.assert_told(f"cover {name} 1,2", "0 | 1")

    def test_without_ties(self):
        self.assert_told("web b 3 -", "ok")
        self.assert_told("cover b 0,1,2", "- | -")
        self.assert_told("match b -", "- | 0 0 0")
        self.assert_told("sides b 010", "010 0")

    def test_one_point(self):
        self.assert_told("web b 1 -", "ok")
        self.assert_told("cover b 7", "- | -")
        self.assert_told("match b -", "- | 0")
        self.assert_told("sides b 1", "1 0")

    def test_sixty_points(self):
        self.assert_told("web b 60 58-59", "ok")
        self.assert_told(f"cover b {worded([1] * 60)}", "58 59 | 1")

    def test_four_hundred_ties(self):
        ties = all_ties(30)[:400]
        self.assert_told(f"web b 30 {tied(ties)}", "ok")
        match, prices = match_by_weight((30, ties), list(range(400)))
        self.assert_told(f"match b {worded(range(400))}", f"{listed(match)} | {listed(prices)}")

    def test_told_anew_by_the_same_name(self):
        self.assert_told("web a 2 0-1", "ok")
        self.assert_told("cover a 1,2", "0 | 1")
        self.assertRaises(NoRow, self.desk.say, "cover a 3,5,4,1")
        self.assert_told("web a 3 -", "ok")
        self.assert_told("cover a 1,2,3", "- | -")

    def test_several_names(self):
        self.assert_told("web b 2 0-1", "ok")
        self.assert_told("web ab 2 -", "ok")
        self.assert_unchanged()
        self.assert_told("cover b 5,5", "0 1 | 5")
        self.assert_told("cover ab 5,5", "- | -")

    def test_several_desks(self):
        other = Desk()
        self.assertRaises(NoName, other.say, "cover a 3,5,4,1")
        self.assertEqual(other.say("web a 2 0-1"), "ok")
        self.assertEqual(other.say("web b 2 0-1"), "ok")
        self.assert_unchanged()
        self.assertRaises(NoName, self.desk.say, "cover b 1,2")
        self.assertEqual(other.say("cover a 1,2"), "0 | 1")
        self.assertRaises(NoName, Desk().say, "cover a 3,5,4,1")

    def test_asking_changes_no_web(self):
        for row in ("cover a 3,5,4,1", "match a 1,2,3", "sides a 0000"):
            first = self.desk.say(row)
            self.assert_told(row, first)
        self.assert_unchanged()


class OfWebs(DeskCase):
    def test_cover(self):
        self.assert_told("cover a 3,5,4,1", "0 1 3 | 3 2 1")
        self.assert_told("cover a 0,0,0,0", "0 1 2 3 | 0 0 0")
        self.assert_told(f"cover a {MOST},{MOST},1,0", f"0 1 3 | {MOST} 0 0")

    def test_match(self):
        self.assert_told("match a 2,3,2", "1 | 0 3 3 0")
        self.assert_told("match a 1,1,1", "0 2 | 1 1 1 1")
        self.assert_told(f"match a 0,{MOST},0", f"1 | 0 {MOST} {MOST} 0")

    def test_sides(self):
        self.assert_told("sides a 0000", "1010 2")
        self.assert_told("sides a 1111", "0101 2")
        self.assert_told("sides a 0101", "0101 0")
        self.assert_told("sides a 0110", "0110 0")

    def test_every_small_web(self):
        for picked in itertools.product((0, 1), repeat=6):
            ties = [tie for tie, pick in zip(all_ties(4), picked) if pick]
            web = (4, ties)
            self.assert_told(f"web b 4 {tied(ties)}", "ok")
            for weights in ([1, 2, 3, 4], [2, 0, 2, 1]):
                cover, prices = cover_by_price(web, weights)
                self.assert_told(f"cover b {worded(weights)}", f"{listed(cover)} | {listed(prices)}")
            weights = [(at * 5 + 2) % 4 for at in range(len(ties))]
            match, prices = match_by_weight(web, weights)
            self.assert_told(f"match b {worded(weights)}", f"{listed(match)} | {listed(prices)}")
            for sides in itertools.product((0, 1), repeat=4):
                now, turns = sides_by_turns(web, list(sides))
                row = "sides b " + "".join(map(str, sides))
                self.assert_told(row, "".join(map(str, now)) + f" {len(turns)}")


class OfBenches(DeskCase):
    def test_by_hand(self):
        self.assert_told("deal 2 1,1,1,1,1", "0 1 0 1 0 | 3 5/2")
        self.assert_told("deal 2 1,2,3,4", "0 1 0 1 | 6 5")
        self.assert_told("dealbig 2 1,2,3,4", "0 1 1 0 | 5 5")
        self.assert_told("dealbig 3 5", "0 | 5 5")

    def test_no_jobs(self):
        for benches in (1, 2, 20):
            self.assert_told(f"deal {benches} -", "- | 0 0")
            self.assert_told(f"dealbig {benches} -", "- | 0 0")

    def test_lengths_of_nought(self):
        self.assert_told("deal 2 0,0", "0 0 | 0 0")
        self.assert_told("dealbig 2 0", "0 | 0 0")

    def test_many_jobs(self):
        for benches in (1, 2, 7, 20):
            for jobs in ([at * 37 % 23 for at in range(60)], [MOST] * 60, [MOST - at for at in range(59)]):
                for word, rule in (("deal", deal_in_order), ("dealbig", deal_by_length)):
                    dealing = rule(jobs, benches)
                    load = load_of(jobs, benches, dealing)
                    answer = f"{listed(dealing)} | {load} {parted(load_bound(jobs, benches))}"
                    self.assert_told(f"{word} {benches} {worded(jobs)}", answer)


class OfBoxes(DeskCase):
    def test_by_hand(self):
        self.assert_told("boxes 10 5,6,5", "0 1 2 | 2")
        self.assert_told("boxesfirst 10 5,6,5", "0 1 0 | 2")
        self.assert_told("boxes 1 1", "0 | 1")
        self.assert_told(f"boxesfirst {MOST} {MOST},1", "0 1 | 2")

    def test_no_things(self):
        for room in (1, MOST):
            self.assert_told(f"boxes {room} -", "- | 0")
            self.assert_told(f"boxesfirst {room} -", "- | 0")

    def test_many_things(self):
        for room, sizes in ((50, [at * 37 % 50 + 1 for at in range(200)]), (MOST, [MOST - at for at in range(200)])):
            for word, rule in (("boxes", fill_last), ("boxesfirst", fill_first)):
                answer = f"{listed(rule(room, sizes))} | {fewest(room, sizes)}"
                self.assert_told(f"{word} {room} {worded(sizes)}", answer)


class OfSacks(DeskCase):
    def test_by_hand(self):
        self.assert_told("sack 10 5/3,7/8,1/11", "1 | 7/8")
        self.assert_told("sack 10 4/4,3/3", "0 1 | 0")
        self.assert_told("sack 3 2/2,4/2", "1 | 1")
        self.assert_told("sack 10 9/1,16/8,6/4", "0 1 | 3/2")
        self.assert_told("sack 10 0/1", "0 | 0")

    def test_none(self):
        self.assert_told("sack 1 -", "- | 0")
        self.assert_told("sack 1 5/2", "- | 0")

    def test_many_things(self):
        for sack in (1, 300, MOST):
            things = [(at * 7919 % 101, at * 31 % 97 + 1) for at in range(100)]
            packing, price = pack(sack, things)
            row = f"sack {sack} " + ",".join(f"{worth}/{weight}" for worth, weight in things)
            self.assert_told(row, f"{listed(packing)} | {parted(price)}")


class OfPages(DeskCase):
    def test_by_hand(self):
        self.assert_told("pages 2 1,2,3,1", "4")
        self.assert_told("pagesahead 2 1,2,3,1", "3")
        self.assert_told("stretches 2 1,2,3,1", "0 2")
        self.assert_told("stretches 20 5", "0")

    def test_no_asks(self):
        for room in (1, 20):
            self.assert_told(f"pages {room} -", "0")
            self.assert_told(f"pagesahead {room} -", "0")
            self.assert_told(f"stretches {room} -", "-")

    def test_many_asks(self):
        for room in (1, 3, 20):
            for asks in ([at * 7919 % 31 for at in range(400)], [MOST - at % 25 for at in range(400)]):
                self.assert_told(f"pages {room} {worded(asks)}", str(len(misses(room, asks))))
                self.assert_told(f"pagesahead {room} {worded(asks)}", str(len(misses_ahead(room, asks))))
                self.assert_told(f"stretches {room} {worded(asks)}", listed(stretches(room, asks)))


class NoSuchRow(DeskCase):
    def test_words_that_are_none(self):
        self.assert_no_row("", "a", "ok", "webs a 2 0-1", "WEB b 2 0-1", "Cover a 3,5,4,1", "covers a 3,5,4,1",
                           "box 10 5", "boxeslast 10 5", "page 2 1", "stretch 2 1", "side a 0000", "deals 2 1",
                           "tour 3 1", "dealBig 2 1", "-", "web\tb\t2\t-", "a 3,5,4,1", "cover\na 3,5,4,1")

    def test_too_few_words(self):
        self.assert_no_row("web", "web b", "web b 2", "cover", "cover a", "cover 3,5,4,1", "match", "match a", "sides",
                           "sides a", "deal", "deal 2", "dealbig", "dealbig 2", "boxes", "boxes 10", "boxesfirst",
                           "boxesfirst 10", "sack", "sack 10", "pages", "pages 2", "pagesahead", "pagesahead 2",
                           "stretches", "stretches 2")

    def test_too_many_words(self):
        self.assert_no_row("web b 2 0-1 1", "web b 3 0-1 1-2", "cover a 3,5,4,1 1", "match a 2,3,2 1", "sides a 0000 0",
                           "sides a 0 0 0 0", "deal 2 1,1 1", "deal 2 1 1", "dealbig 2 1,1 1", "boxes 10 5,5 5",
                           "boxesfirst 10 5,5 5", "sack 10 5/3 1/1", "pages 2 1,2 3", "pagesahead 2 1,2 3",
                           "stretches 2 1,2 3", "cover b 3,5,4,1 1", "match nosuch 1 2 3")

    def test_blanks(self):
        for row in ("web b 2 0-1", "cover a 3,5,4,1", "match a 2,3,2", "sides a 0000", "deal 2 1,1", "dealbig 2 1,1",
                    "boxes 10 5,5", "boxesfirst 10 5,5", "sack 10 5/3", "pages 2 1,2", "pagesahead 2 1,2",
                    "stretches 2 1,2"):
            self.desk.say(row)
            self.desk.say(PATH)
            words = row.split(" ")
            self.assert_no_row(" " + row, row + " ", row.replace(" ", "  "), " ".join(words[:-1]) + " ",
                               words[0] + "  " + " ".join(words[2:]), "\t".join(words), row + "\n", "\n" + row)
        self.assert_no_row(" ", "  ", "   ", "cover  3,5,4,1", "cover nosuch ", "sides nosuch ", "match  1")

    def test_numbers_that_are_none(self):
        for number in ("01", "00", "1000000000000", "-1", "+1", "1.0", "1e3", "x", "one", "1_0", "0x1", "-0", "--",
                       "1/1"):
            self.assert_no_row(f"web b {number} -", f"deal {number} 1", f"dealbig {number} 1", f"boxes {number} 1",
                               f"boxesfirst {number} 1", f"sack {number} 1/1", f"pages {number} 1",
                               f"pagesahead {number} 1", f"stretches {number} 1")
            self.assert_no_row(f"deal 2 {number}", f"dealbig 2 1,{number}", f"boxes 10 {number},1",
                               f"boxesfirst 10 1,{number}", f"sack 10 {number}/1", f"sack 10 1/{number}",
                               f"pages 2 {number}", f"pagesahead 2 1,{number}", f"stretches 2 {number},1",
                               f"cover a 3,5,4,{number}", f"match a {number},3,2", f"web b 2 0-{number}-",
                               f"web b 2 {number}-{number}-{number}", f"web b 2 0-1,{number}")

    def test_lists_that_are_none(self):
        for word in (",", "1,", ",1", "1,,1", "-,1", "1,-", "1;1", "1.1", "(1)", "[]", "1-1"):
            self.assert_no_row(f"deal 2 {word}", f"dealbig 2 {word}", f"boxes 10 {word}", f"boxesfirst 10 {word}",
                               f"pages 2 {word}", f"pagesahead 2 {word}", f"stretches 2 {word}", f"sack 10 {word}",
                               f"cover a {word}", f"match a {word}")

    def test_things_that_are_none(self):
        for word in ("1", "1/", "/1", "/", "1/1/1", "1/1,", ",1/1", "1/1,,1/1", "1-1", "1//1", "1/1,1", "-/1"):
            self.assert_no_row(f"sack 10 {word}")

    def test_ties_that_are_none(self):
        for word in ("0", "0-", "-1", "0-1-", "0--1", "0-1-2", "0-1,", ",0-1", "0-1,,0-2", "0/1", "0-1,-", "-,0-1",
                     "--", "a-b", "00-1", "0-01", "0-1000000000000"):
            self.assert_no_row(f"web b 9 {word}")

    def test_sides_that_are_none(self):
        self.assert_no_row("sides a 0002", "sides a 000x", "sides a -", "sides a 0,0,0,0", "sides a 00-0",
                           "sides a 0000\n")

    def test_numbers_beyond_what_is_told(self):
        self.assert_no_row("deal 0 1", "deal 21 1", "dealbig 0 -", "dealbig 21 -", "boxes 0 -", "boxesfirst 0 -",
                           "boxes 0 1", "sack 0 -", "sack 0 1/1", "pages 0 1", "pages 21 1", "pagesahead 0 -",
                           "pagesahead 21 -", "stretches 0 -", "stretches 21 -")
        self.assert_no_row("boxes 10 0", "boxes 10 11", "boxes 10 5,0", "boxes 10 5,11,5", "boxesfirst 10 0",
                           "boxesfirst 10 11", "sack 10 1/0", "sack 10 1/1,0/0")
        self.assert_told("deal 20 1", "0 | 1 1")
        self.assert_told("pages 20 1", "1")
        self.assert_told("boxes 10 10,1", "0 1 | 2")

    def test_lists_of_a_wrong_length(self):
        self.assert_no_row("cover a -", "cover a 1", "cover a 3,5,4", "cover a 3,5,4,1,1", "match a -", "match a 2,3",
                           "match a 2,3,2,1", "sides a 0", "sides a 000", "sides a 00000")
        for length, rows in ((61, ("deal 2", "dealbig 2")), (201, ("boxes 10", "boxesfirst 10")),
                             (401, ("pages 2", "pagesahead 2", "stretches 2"))):
            for row in rows:
                self.assert_no_row(f"{row} {worded([1] * length)}")
                self.desk.say(f"{row} {worded([1] * (length - 1))}")
        self.assert_no_row("sack 10 " + ",".join(["1/1"] * 101))
        self.desk.say("sack 10 " + ",".join(["1/1"] * 100))

    def test_no_weights_for_a_web_with_ties_and_too_many_for_one_without(self):
        self.assert_told("web b 2 -", "ok")
        self.assert_no_row("match b 0", "match b 1,1", "cover b -", "cover b 1")

    def test_names_of_webs_that_are_none(self):
        for name in ("A", "Ab", "aB", "a1", "1", "abcdefghi", "-", "a-b", "a_b", "a,b", "a.", "0", "abcdefgH", "a\n"):
            self.assert_no_row(f"web {name} 2 0-1", f"web {name} 0 -", f"web {name} 2 1-0", f"web {name} x -")


class NoSuchName(DeskCase):
    def test_nothing_stands_by_it(self):
        self.assert_no_name("cover b 1,2", "match b 1", "sides b 01", "cover aa 3,5,4,1", "cover abcdefgh 1")

    def test_whatever_word_it_is(self):
        for name in ("A", "abcdefghi", "1", "-", "a1", "a,b", "*", "0-1", "web", "cover", "a\n", "\t", "0" * 100):
            self.assert_no_name(f"cover {name} 3,5,4,1", f"match {name} 2,3,2", f"sides {name} 0000")

    def test_ahead_of_lists_of_a_wrong_length(self):
        self.assert_no_name("cover b -", "cover b 1", f"cover b {worded([1] * 61)}", "match b -", "match b 1",
                            f"match b {worded([1] * 401)}", "sides b 0", f"sides b {'0' * 61}")

    def test_behind_the_count_of_words(self):
        self.assert_no_row("cover b", "match b", "sides b", "cover b 1 2", "match b 1 2", "sides b 0 1")

    def test_behind_their_writing(self):
        self.assert_no_row("cover b x", "cover b 01", "cover b 1,,2", "cover b 1000000000000", "match b 1;2",
                           "match b ,", "match b 007", "sides b 012", "sides b x", "sides b 0,1", "cover b ",
                           "sides  01", "cover  1,2", "cover ABC 1,x")

    def test_no_name_is_kept_by_a_refused_web(self):
        self.assert_no_web("web b 2 1-0")
        self.assert_no_row("web c x -")
        self.assert_no_name("cover b 1,2", "cover c 1,2")


class NoSuchWeb(DeskCase):
    def test_points(self):
        self.assert_no_web("web b 0 -", "web b 61 -", f"web b {MOST} -", "web b 0 0-1", "web b 61 0-1")
        self.assert_told("web b 1 -", "ok")
        self.assert_told("web b 60 -", "ok")

    def test_ends_of_ties(self):
        self.assert_no_web("web b 2 0-0", "web b 2 1-0", "web b 2 0-2", "web b 2 1-2", "web b 1 0-1", "web b 3 0-1,2-2",
                           f"web b 60 0-{MOST}", f"web b 60 {MOST}-0", "web b 60 59-60")
        self.assert_told("web b 60 58-59", "ok")

    def test_ties_out_of_order_or_alike(self):
        self.assert_no_web("web b 3 0-2,0-1", "web b 3 1-2,0-1", "web b 3 0-1,0-1", "web b 3 0-1,1-2,0-2")

    def test_too_many_ties(self):
        self.assert_no_web(f"web b 30 {tied(all_ties(30)[:401])}", f"web b 30 {tied(all_ties(30))}")
        self.assert_told(f"web b 30 {tied(all_ties(30)[:400])}", "ok")

    def test_in_the_stead_of_none(self):
        self.assert_no_web("web a 2 1-0", "web a 0 -", "web a 61 -", "web a 4 0-1,0-1")
        self.assert_no_row("web a 2 x", "web a x -", "web a 2", "web a 2 - -", "web a 02 -")

    def test_behind_the_writing(self):
        self.assert_no_row("web b 61 x", "web b 0 0", "web b 0 0-1,", "web B 61 -", "web b 061 -", "web b 2 1-0,x",
                           "web B 2 1-0", "web b 2 1-0 1")


if __name__ == "__main__":
    unittest.main()
