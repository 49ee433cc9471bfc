import copy
import unittest

from nearenough.errors import NoWeb
from nearenough.webs import number_of, read_web, shown_web, ties_of


def all_ties(many):
    return [(one, other) for one in range(many) for other in range(one + 1, many)]


FIRST_TIES = all_ties(60)[:400]
SPREAD_TIES = all_ties(60)[::4][:400]
LAST_TIES = all_ties(60)[-400:]
WEBS = (
    (1, []),
    (2, []),
    (2, [(0, 1)]),
    (3, [(0, 2)]),
    (4, [(0, 1), (0, 3), (1, 2), (2, 3)]),
    (11, [(0, 2), (0, 10), (2, 3), (9, 10)]),
    (28, all_ties(28)),
    (59, [(57, 58)]),
    (60, []),
    (60, [(0, 59), (58, 59)]),
    (60, FIRST_TIES),
    (60, SPREAD_TIES),
    (60, LAST_TIES),
    (60, FIRST_TIES[:399]),
)


class Numbers(unittest.TestCase):
    def assert_number(self, text, number):
        told = number_of(text)
        self.assertEqual(told, number)
        self.assertIs(type(told), int)

    def test_one_to_twelve_figures(self):
        for many in range(1, 13):
            for text in ("1" + "0" * (many - 1), "9" * many, "1234567890123"[:many]):
                with self.subTest(text=text):
                    self.assert_number(text, int(text))

    def test_each_figure(self):
        for number in range(10):
            self.assert_number(str(number), number)
            self.assert_number("1" + str(number), 10 + number)

    def test_nought_itself(self):
        self.assert_number("0", 0)

    def test_what_writes_no_number(self):
        wrong = (
            "", "00", "01", "007", "0" * 12, "0" * 13, "0" + "1" * 11, "0" + "1" * 12,
            "1" * 13, "1000000000000", "9" * 20,
            "-1", "+1", "-0", "+0", "-", "+",
            " ", " 1", "1 ", "1 2", "\t1", "1\n", "\n1", "1\r",
            "a", "1a", "a1", "0x1", "1e3", "one", "1_0", "1.0", "1,0", "1/2", ".",
        )
        for text in wrong:
            with self.subTest(text=text):
                self.assertIsNone(number_of(text))


class Texts(unittest.TestCase):
    def assert_web(self, told, web):
        # Not assertEqual: its picture of how two webs of 400 ties differ takes minutes.
        self.assertTrue(told == web, f"read: {str(told)[:200]}")
        self.assertIs(type(told), tuple)
        self.assertIs(type(told[0]), int)
        self.assertIs(type(told[1]), list)
        for tie in told[1]:
            self.assertIs(type(tie), tuple)
            self.assertEqual([type(end) for end in tie], [int, int])

    def test_shown(self):
        self.assertEqual(shown_web((1, [])), "points 1")
        self.assertEqual(shown_web((2, [(0, 1)])), "points 2\ntie 0 1")
        self.assertEqual(
            shown_web((60, [(0, 2), (0, 10), (58, 59)])),
            "points 60\ntie 0 2\ntie 0 10\ntie 58 59",
        )

    def test_read(self):
        self.assert_web(read_web("points 1"), (1, []))
        self.assert_web(read_web("points 60"), (60, []))
        self.assert_web(read_web("points 2\ntie 0 1"), (2, [(0, 1)]))
        self.assert_web(
            read_web("points 60\ntie 0 2\ntie 0 10\ntie 58 59"),
            (60, [(0, 2), (0, 10), (58, 59)]),
        )

    def test_shown_and_read_again(self):
        for web in WEBS:
            with self.subTest(many=web[0], ties=len(web[1])):
                self.assert_web(read_web(shown_web(web)), web)

    def test_every_number_of_points(self):
        for many in range(1, 61):
            self.assert_web(read_web(f"points {many}"), (many, []))


class Ends(unittest.TestCase):
    def test_some(self):
        web = (5, [(0, 1), (0, 3), (1, 2), (2, 3)])
        self.assertEqual(ties_of(web, 0), [0, 1])
        self.assertEqual(ties_of(web, 1), [0, 2])
        self.assertEqual(ties_of(web, 2), [2, 3])
        self.assertEqual(ties_of(web, 3), [1, 3])
        self.assertEqual(ties_of(web, 4), [])

    def test_each_point_of_each_web(self):
        for many, ties in WEBS:
            with self.subTest(many=many, ties=len(ties)):
                hung = [[] for point in range(many)]
                for at, (one, other) in enumerate(ties):
                    hung[one].append(at)
                    hung[other].append(at)
                for point in range(many):
                    told = ties_of((many, ties), point)
                    self.assertEqual(told, hung[point])
                    self.assertIs(type(told), list)
                    self.assertTrue(all(type(at) is int for at in told))


class Refused(unittest.TestCase):
    def assert_refused(self, text, row):
        with self.subTest(text=text[:60], row=row):
            with self.assertRaises(NoWeb) as held:
                read_web(text)
            self.assertEqual(held.exception.row, row)
            self.assertIs(type(held.exception.row), int)

    def assert_row_refused(self, row):
        """The row can't stand as the second one, nor as the fourth, whatever follows."""
        self.assert_refused("points 3\n" + row, 1)
        self.assert_refused("points 3\n" + row + "\ntie 1 2", 1)
        self.assert_refused("points 3\n" + row + "\nno row", 1)
        self.assert_refused("points 3\ntie 0 1\ntie 0 2\n" + row, 3)

    def test_first_row_that_is_none(self):
        firsts = (
            "", "point", "points", "point 3", "Points 3", "POINTS 3", "points3", "web 3",
            "3", "3 points", "tie 0 1", "points three", "points 3x", "points -3", "points +3",
            "points 3.", "points -", "points 3 tie 0 1",
        )
        for first in firsts:
            self.assert_refused(first, 0)
            self.assert_refused(first + "\ntie 0 1", 0)
            self.assert_refused(first + "\nno row", 0)

    def test_row_ahead_of_the_first(self):
        self.assert_refused("\npoints 3", 0)
        self.assert_refused("tie 0 1\npoints 3", 0)

    def test_number_of_points(self):
        for many in ("0", "61", "62", "100", "600", "999999999999"):
            self.assert_refused("points " + many, 0)
            self.assert_refused("points " + many + "\ntie 0 1", 0)

    def test_first_row_words(self):
        for first in ("points 3 ", " points 3", "points  3", "points ", "points 3 3", "points 3 0", " ", "points\t3",
                      "points 3\t", "points 3\r"):
            self.assert_refused(first, 0)

    def test_first_row_numbers(self):
        for many in ("03", "00", "060", "0000000000003", "000000000003", "1000000000000", "0x3", "3_0"):
            self.assert_refused("points " + many, 0)

    def test_tie_beyond_four_hundred(self):
        rows = ["points 60"] + [f"tie {one} {other}" for one, other in all_ties(60)]
        read_web("\n".join(rows[:401]))
        self.assert_refused("\n".join(rows[:402]), 401)
        self.assert_refused("\n".join(rows[:403]), 401)
        self.assert_refused("\n".join(rows[:401] + ["no row"]), 401)
        self.assert_refused("\n".join(rows[:400] + ["no row"] + rows[401:405]), 400)

    def test_one_not_less_than_other(self):
        for row in ("tie 0 0", "tie 1 1", "tie 2 2", "tie 1 0", "tie 2 0", "tie 2 1"):
            self.assert_row_refused(row)

    def test_end_that_is_no_point(self):
        for row in ("tie 0 3", "tie 2 3", "tie 3 4", "tie 0 60", "tie 0 999999999999", "tie -1 1"):
            self.assert_row_refused(row)
        self.assert_refused("points 1\ntie 0 1", 1)
        self.assert_refused("points 60\ntie 0 59\ntie 0 60", 2)

    def test_out_of_order(self):
        self.assert_refused("points 3\ntie 0 2\ntie 0 1", 2)
        self.assert_refused("points 3\ntie 1 2\ntie 0 1", 2)
        self.assert_refused("points 3\ntie 1 2\ntie 0 2", 2)
        self.assert_refused("points 4\ntie 0 1\ntie 1 3\ntie 1 2\ntie 2 3", 3)
        self.assert_refused("points 11\ntie 0 10\ntie 0 2", 2)
        self.assert_refused("points 5\ntie 0 1\ntie 2 3\ntie 0 4", 3)

    def test_told_twice(self):
        self.assert_refused("points 3\ntie 0 1\ntie 0 1", 2)
        self.assert_refused("points 3\ntie 0 1\ntie 0 2\ntie 0 2\ntie 1 2", 3)
        self.assert_refused("points 3\ntie 0 1\ntie 0 2\ntie 0 1", 3)

    def test_words_lacking_or_too_many(self):
        for row in ("tie", "tie 1", "1 2", "tie 1 2 2", "tie 1 2 tie", "tie 1 2 tie 1 2", "Tie 1 2", "ties 1 2",
                    "tie1 2", "points 3", "points 1 2", "link 1 2", "1 2 tie"):
            self.assert_row_refused(row)

    def test_blanks(self):
        for row in ("tie  1 2", "tie 1  2", " tie 1 2", "tie 1 2 ", "  tie 1 2", "tie 1 2  ", "tie 1 ", "tie  1",
                    "tie ", " ", "tie\t1 2", "tie 1\t2", "tie 1 2\t", "tie 1 2\r"):
            self.assert_row_refused(row)

    def test_numbers_written_otherwise(self):
        for row in ("tie 1 02", "tie 01 2", "tie 00 2", "tie 1 +2", "tie +1 2", "tie -0 2", "tie 1 2.", "tie one 2",
                    "tie 1 two", "tie 1 0000000000002", "tie 1 000000000002", "tie 1 1000000000000", "tie 1-2",
                    "tie 1,2", "tie 1 2_"):
            self.assert_row_refused(row)

    def test_empty_row(self):
        self.assert_row_refused("")
        self.assert_refused("points 3\n\ntie 0 1", 1)
        self.assert_refused("points 3\ntie 0 1\n\ntie 0 2", 2)

    def test_line_feed_at_the_end(self):
        self.assert_refused("\n", 0)
        self.assert_refused("points 3\n", 1)
        self.assert_refused("points 3\n\n", 1)
        self.assert_refused("points 3\ntie 0 1\n", 2)
        self.assert_refused("points 3\ntie 0 1\ntie 0 2\ntie 1 2\n", 4)

    def test_rows_parted_otherwise(self):
        self.assert_refused("points 3\r\ntie 0 1", 0)
        self.assert_refused("points 3 tie 0 1", 0)
        self.assert_refused("points 3\ntie 0 1\rtie 0 2", 1)

    def test_first_of_several(self):
        self.assert_refused("points 3\ntie 0 1\ntie 0 3\ntie 1 0\nno row", 2)
        self.assert_refused("points 61\ntie 1 0", 0)


class Kept(unittest.TestCase):
    def test_read_lists_are_the_askers_own(self):
        text = "points 4\ntie 0 1\ntie 2 3"
        first = read_web(text)
        first[1].append((0, 0))
        del first[1][0]
        self.assertEqual(read_web(text), (4, [(0, 1), (2, 3)]))
        empty = read_web("points 4")
        empty[1].append((0, 1))
        self.assertEqual(read_web("points 4"), (4, []))

    def test_what_is_read_later_leaves_what_was_told(self):
        first = read_web("points 4\ntie 0 1")
        read_web("points 4\ntie 2 3")
        with self.assertRaises(NoWeb):
            read_web("points 4\ntie 1 2\ntie 0 1")
        self.assertEqual(first, (4, [(0, 1)]))

    def test_lists_of_ties_are_the_askers_own(self):
        web = (4, [(0, 1), (0, 2), (2, 3)])
        first = ties_of(web, 0)
        first.append(7)
        first[0] = 9
        self.assertEqual(ties_of(web, 0), [0, 1])
        ties_of((4, []), 0).append(7)
        self.assertEqual(ties_of((4, []), 0), [])
        self.assertEqual(web, (4, [(0, 1), (0, 2), (2, 3)]))

    def test_what_is_handed_in_stays(self):
        for web in WEBS:
            before = copy.deepcopy(web)
            shown_web(web)
            for point in range(web[0]):
                ties_of(web, point)
            self.assertTrue(web == before)

    def test_what_is_changed_in_a_web_is_seen(self):
        web = (3, [(0, 1)])
        self.assertEqual(ties_of(web, 1), [0])
        self.assertEqual(shown_web(web), "points 3\ntie 0 1")
        web[1].append((1, 2))
        self.assertEqual(ties_of(web, 1), [0, 1])
        self.assertEqual(shown_web(web), "points 3\ntie 0 1\ntie 1 2")


if __name__ == "__main__":
    unittest.main()
