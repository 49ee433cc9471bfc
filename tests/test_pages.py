import copy
import itertools
import unittest

from nearenough.pages import misses, misses_ahead, stretches, worst_asks

LARGE = (
    [],
    [7],
    [7] * 400,
    list(range(400)),
    [at % 21 for at in range(400)],
    [at % 20 for at in range(400)],
    [at * 7919 % 31 for at in range(400)],
    [at * at * 37 % 23 - 11 for at in range(399)],
    [at * at * at % 101 % 29 for at in range(400)],
    [(at // 5) * (at % 5) % 26 for at in range(400)],
    [10 ** 12 - at % 7 for at in range(400)],
    [-at % 24 - 10 ** 15 for at in range(400)],
)


def missed_by(room, asks, choose):
    """The asks that miss where choose tells, of the kept pages, the one that goes at an ask."""
    kept = set()
    missed = []
    for at, page in enumerate(asks):
        if page in kept:
            continue
        missed.append(at)
        if len(kept) == room:
            kept.remove(choose(kept, at))
        kept.add(page)
    return missed


def longest_ago_by_the_words(room, asks):
    return missed_by(room, asks, lambda kept, at: min(
        kept, key=lambda page: max(ask for ask in range(at) if asks[ask] == page)))


def ahead_by_the_words(room, asks):
    def choose(kept, at):
        never = sorted(page for page in kept if page not in asks[at:])
        return never[0] if never else max(kept, key=lambda page: asks[at:].index(page))
    return missed_by(room, asks, choose)


def stretches_by_the_words(room, asks):
    begins = []
    while sum(begins[-1:]) < len(asks):
        begin = sum(begins[-1:])
        if not begins:
            begins.append(0)
            continue
        ends = [end for end in range(begin + 1, len(asks) + 1) if len(set(asks[begin:end])) <= room]
        if ends[-1] == len(asks):
            break
        begins.append(ends[-1])
    return begins


def fewest_misses(room, asks):
    """The fewest misses of all ways of keeping, in which pages go only for a miss, if not for want of room alone."""
    ways = {frozenset(): 0}
    for page in asks:
        then = {}
        for kept, many in ways.items():
            if page in kept:
                told = [(kept, many)]
            else:
                told = [(frozenset(some) | {page}, many + 1) for length in range(min(len(kept), room - 1) + 1)
                        for some in itertools.combinations(kept, length)]
            for some, many_then in told:
                then[some] = min(then.get(some, many_then), many_then)
        ways = then
    return min(ways.values())


class PagesCase(unittest.TestCase):
    def assert_list(self, told, numbers):
        self.assertEqual(told, numbers)
        self.assertIs(type(told), list)
        self.assertTrue(all(type(number) is int for number in told))


class LongestAgo(PagesCase):
    def assert_told(self, room, asks, missed):
        self.assert_list(misses(room, asks), missed)

    def test_by_hand(self):
        self.assert_told(2, [1, 2, 3, 1], [0, 1, 2, 3])
        self.assert_told(2, [1, 2, 1, 3, 1, 2], [0, 1, 3, 5])
        self.assert_told(3, [1, 2, 3, 1, 4, 1, 2], [0, 1, 2, 4, 6])

    def test_the_last_ask_not_the_first_one_counts(self):
        self.assert_told(2, [1, 2, 1, 3, 1], [0, 1, 3])
        self.assert_told(2, [1, 2, 1, 3, 2], [0, 1, 3, 4])

    def test_not_how_often(self):
        self.assert_told(2, [1, 1, 1, 2, 3, 1], [0, 3, 4, 5])
        self.assert_told(2, [1, 1, 1, 2, 3, 2], [0, 3, 4])

    def test_no_asks(self):
        for room in (1, 2, 20):
            self.assert_told(room, [], [])

    def test_room_of_one(self):
        self.assert_told(1, [1, 1, 2, 2, 1, 2], [0, 2, 4, 5])
        self.assert_told(1, [5], [0])

    def test_more_room_than_pages(self):
        self.assert_told(20, [3, 1, 3, 2, 1, 2, 3], [0, 1, 3])
        self.assert_told(20, list(range(20)) * 20, list(range(20)))
        self.assert_told(20, (list(range(21)) * 20)[:400], list(range(400)))

    def test_pages_below_nought(self):
        self.assert_told(2, [-1, 0, -1, 1, -1, 0], [0, 1, 3, 5])
        self.assert_told(2, [-5, -6, -5, -7, -6], [0, 1, 3, 4])

    def test_every_small_list(self):
        for length in range(7):
            for asks in itertools.product((-1, 0, 1, 2), repeat=length):
                for room in (1, 2, 3):
                    self.assert_told(room, list(asks), longest_ago_by_the_words(room, list(asks)))

    def test_many_asks(self):
        for asks in LARGE:
            for room in (1, 2, 3, 7, 19, 20):
                self.assert_told(room, asks, longest_ago_by_the_words(room, asks))


class Ahead(PagesCase):
    def assert_told(self, room, asks, missed):
        self.assert_list(misses_ahead(room, asks), missed)

    def test_by_hand(self):
        self.assert_told(2, [1, 2, 3, 1], [0, 1, 2])
        self.assert_told(2, [1, 2, 3, 2, 1], [0, 1, 2, 4])
        self.assert_told(3, [1, 2, 3, 4, 1, 2, 3, 4], [0, 1, 2, 3, 6])

    def test_the_next_ask_not_the_last_one_counts(self):
        self.assert_told(2, [1, 2, 3, 1, 2, 1], [0, 1, 2, 4])
        self.assert_told(2, [1, 2, 3, 2, 1, 2], [0, 1, 2, 4])

    def test_those_never_asked_again_ahead_of_all(self):
        self.assert_told(2, [1, 2, 3, 2], [0, 1, 2])
        self.assert_told(2, [2, 1, 3, 2], [0, 1, 2])
        self.assert_told(3, [1, 2, 3, 4, 3, 1], [0, 1, 2, 3])

    def test_of_several_the_least_page(self):
        # At ask 3 neither 5 nor 7 is asked again: whichever goes, no ask can tell, but 9 stays.
        self.assert_told(3, [7, 5, 9, 1, 9, 1], [0, 1, 2, 3])
        self.assert_told(3, [-7, 5, 9, 1, 9, 1], [0, 1, 2, 3])

    def test_no_asks(self):
        for room in (1, 2, 20):
            self.assert_told(room, [], [])

    def test_room_of_one(self):
        self.assert_told(1, [1, 1, 2, 2, 1, 2], [0, 2, 4, 5])
        self.assert_told(1, [5], [0])

    def test_more_room_than_pages(self):
        self.assert_told(20, [3, 1, 3, 2, 1, 2, 3], [0, 1, 3])
        self.assert_told(20, list(range(20)) * 20, list(range(20)))

    def test_pages_below_nought(self):
        self.assert_told(2, [-1, 0, 1, -1, 0], [0, 1, 2, 4])
        self.assert_told(2, [-5, -6, -7, -6, -5], [0, 1, 2, 4])

    def test_every_small_list(self):
        for length in range(7):
            for asks in itertools.product((-1, 0, 1, 2), repeat=length):
                for room in (1, 2, 3):
                    self.assert_told(room, list(asks), ahead_by_the_words(room, list(asks)))

    def test_many_asks(self):
        for asks in LARGE:
            for room in (1, 2, 3, 7, 19, 20):
                self.assert_told(room, asks, ahead_by_the_words(room, asks))


class Stretches(PagesCase):
    def assert_told(self, room, asks, begins):
        self.assert_list(stretches(room, asks), begins)

    def test_by_hand(self):
        self.assert_told(2, [1, 2, 3, 1], [0, 2])
        self.assert_told(2, [1, 2, 1, 2, 3, 3, 3, 2, 1], [0, 4, 8])
        self.assert_told(3, [1, 2, 3, 4, 3, 2, 1], [0, 3, 6])

    def test_a_page_of_the_stretch_before_counts_anew(self):
        self.assert_told(2, [1, 2, 3, 2, 1], [0, 2, 4])
        self.assert_told(1, [1, 2, 1, 2], [0, 1, 2, 3])

    def test_no_asks(self):
        for room in (1, 2, 20):
            self.assert_told(room, [], [])

    def test_one_stretch(self):
        self.assert_told(1, [5], [0])
        self.assert_told(1, [5] * 400, [0])
        self.assert_told(20, list(range(20)) * 20, [0])
        self.assert_told(20, [7, 5], [0])

    def test_pages_below_nought(self):
        self.assert_told(1, [-1, -1, 0, 0, -1], [0, 2, 4])

    def test_every_small_list(self):
        for length in range(7):
            for asks in itertools.product((-1, 0, 1, 2), repeat=length):
                for room in (1, 2, 3):
                    self.assert_told(room, list(asks), stretches_by_the_words(room, list(asks)))

    def test_many_asks(self):
        for asks in LARGE:
            for room in (1, 2, 3, 7, 19, 20):
                self.assert_told(room, asks, stretches_by_the_words(room, asks))


class Factors(PagesCase):
    def assert_within(self, room, asks):
        """No stretch has more misses of the first rule than room; no rule has fewer than stretches."""
        begins = stretches(room, asks)
        first = misses(room, asks)
        for begin, end in zip(begins, begins[1:] + [len(asks)]):
            self.assertLessEqual(len([at for at in first if begin <= at < end]), room)
        self.assertLessEqual(len(begins), len(misses_ahead(room, asks)))
        self.assertLessEqual(len(misses_ahead(room, asks)), len(first))

    def test_many_asks(self):
        for asks in LARGE:
            for room in (1, 2, 3, 7, 19, 20):
                self.assert_within(room, asks)

    def test_worst_cases(self):
        for room in range(1, 21):
            for size in (1, 2, 7, 15):
                self.assert_within(room, worst_asks(room, size))

    def test_against_all_ways_of_keeping(self):
        for length in range(8):
            for asks in itertools.product((0, 1, 2, 3), repeat=length):
                # Pages come in their order, since their names do not matter here.
                if [page for page in dict.fromkeys(asks)] != sorted(set(asks)):
                    continue
                for room in (1, 2, 3):
                    self.assert_within(room, list(asks))
                    fewest = fewest_misses(room, asks)
                    self.assertLessEqual(len(stretches(room, list(asks))), fewest)
                    self.assertEqual(len(misses_ahead(room, list(asks))), fewest)


class Worst(PagesCase):
    def test_for_each_room_and_size(self):
        for room in range(1, 21):
            for size in range(1, 16):
                told = worst_asks(room, size)
                self.assert_list(told, (list(range(room + 1)) * size)[:size * room])
                self.assertEqual(misses(room, told), list(range(size * room)))
                self.assertEqual(len(stretches(room, told)), size)

    def test_smallest_by_hand(self):
        self.assertEqual(worst_asks(1, 1), [0])
        self.assertEqual(worst_asks(1, 4), [0, 1, 0, 1])
        self.assertEqual(worst_asks(3, 3), [0, 1, 2, 3, 0, 1, 2, 3, 0])


class Kept(PagesCase):
    def test_what_is_handed_in_stays(self):
        for asks in LARGE:
            before = copy.deepcopy(asks)
            for told in (misses, misses_ahead, stretches):
                told(3, asks)
                self.assertEqual(asks, before)

    def test_told_lists_are_the_askers_own(self):
        asks = [1, 2, 3, 1]
        for told, numbers in ((misses, [0, 1, 2, 3]), (misses_ahead, [0, 1, 2]), (stretches, [0, 2])):
            first = told(2, asks)
            first.append(9)
            first[0] = 9
            self.assertEqual(told(2, asks), numbers)
            told(2, []).append(9)
            self.assertEqual(told(2, []), [])

    def test_told_lists_stay(self):
        asks = [1, 2, 3, 1]
        first = [told(2, asks) for told in (misses, misses_ahead, stretches)]
        asks.clear()
        for told in (misses, misses_ahead, stretches):
            told(2, [4, 5, 6, 7, 8])
        self.assertEqual(first, [[0, 1, 2, 3], [0, 1, 2], [0, 2]])

    def test_worst_cases_are_the_askers_own(self):
        worst_asks(2, 2).clear()
        self.assertEqual(worst_asks(2, 2), [0, 1, 2, 0])


if __name__ == "__main__":
    unittest.main()
