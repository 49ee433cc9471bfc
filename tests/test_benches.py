import copy
import itertools
import unittest
from fractions import Fraction

from nearenough.benches import deal_by_length, deal_in_order, load_bound, load_of, worst_by_length, worst_in_order

MOST = 10 ** 12

LARGE = (
    [],
    [0],
    [MOST],
    [0] * 60,
    [1] * 60,
    [MOST] * 60,
    list(range(60)),
    list(range(60, 0, -1)),
    [job * 7919 % 101 for job in range(60)],
    [job * job * 37 % 13 for job in range(59)],
    [MOST - job % 3 for job in range(60)],
    [MOST if job % 7 == 0 else job for job in range(60)],
)


def loads(jobs, benches, dealing):
    """What each bench has by a dealing."""
    return [sum(length for length, told in zip(jobs, dealing) if told == bench) for bench in range(benches)]


def in_order_by_the_words(jobs, benches):
    dealing = []
    for job in range(len(jobs)):
        so_far = loads(jobs[:job], benches, dealing)
        dealing.append(min(range(benches), key=lambda bench: (so_far[bench], bench)))
    return dealing


def by_length_by_the_words(jobs, benches):
    order = sorted((-length, job) for job, length in enumerate(jobs))
    dealing = in_order_by_the_words([-length for length, job in order], benches)
    told = {job: bench for (length, job), bench in zip(order, dealing)}
    return [told[job] for job in range(len(jobs))]


def bound_by_the_words(jobs, benches):
    falling = sorted(jobs)[::-1]
    told = [Fraction(0), Fraction(sum(jobs), benches)] + [Fraction(length) for length in jobs]
    told += [Fraction(one + other) for one, other in zip(falling[benches - 1:benches], falling[benches:benches + 1])]
    return max(told)


def least_load(jobs, benches):
    dealings = itertools.product(range(benches), repeat=len(jobs))
    return min(max(loads(jobs, benches, dealing)) for dealing in dealings)


class BenchesCase(unittest.TestCase):
    def assert_dealing(self, told, dealing):
        self.assertEqual(told, dealing)
        self.assertIs(type(told), list)
        self.assertTrue(all(type(bench) is int for bench in told))


class InOrder(BenchesCase):
    def assert_told(self, jobs, benches, dealing):
        self.assert_dealing(deal_in_order(jobs, benches), dealing)

    def test_by_hand(self):
        self.assert_told([3, 1, 1, 1, 2], 2, [0, 1, 1, 1, 0])
        self.assert_told([1, 2, 3, 4], 2, [0, 1, 0, 1])
        self.assert_told([4, 3, 2, 1], 3, [0, 1, 2, 2])
        self.assert_told([MOST, 1, 1], 2, [0, 1, 1])

    def test_of_several_the_first(self):
        self.assert_told([1, 1, 1, 1, 1], 3, [0, 1, 2, 0, 1])
        self.assert_told([2, 1, 1, 1], 2, [0, 1, 1, 0])

    def test_lengths_of_nought(self):
        self.assert_told([0, 0, 0], 3, [0, 0, 0])
        self.assert_told([0, 1, 0, 1, 0], 2, [0, 0, 1, 1, 0])

    def test_no_jobs(self):
        for benches in (1, 2, 20):
            self.assert_told([], benches, [])

    def test_one_bench(self):
        self.assert_told([3, 1, 0, 2], 1, [0, 0, 0, 0])

    def test_more_benches_than_jobs(self):
        self.assert_told([3, 1, 2], 5, [0, 1, 2])
        self.assert_told([7], 20, [0])

    def test_every_small_list(self):
        for length in range(5):
            for jobs in itertools.product((0, 1, 2, 3), repeat=length):
                for benches in (1, 2, 3):
                    self.assert_told(list(jobs), benches, in_order_by_the_words(list(jobs), benches))

    def test_many_jobs(self):
        for jobs in LARGE:
            for benches in (1, 2, 3, 7, 19, 20):
                self.assert_told(jobs, benches, in_order_by_the_words(jobs, benches))


class ByLength(BenchesCase):
    def assert_told(self, jobs, benches, dealing):
        self.assert_dealing(deal_by_length(jobs, benches), dealing)

    def test_by_hand(self):
        self.assert_told([1, 2, 3, 4], 2, [0, 1, 1, 0])
        self.assert_told([2, 2, 3], 2, [1, 1, 0])
        self.assert_told([1, 1, MOST], 2, [1, 1, 0])

    def test_jobs_of_one_length_in_order(self):
        self.assert_told([1, 1, 1, 1, 1], 3, [0, 1, 2, 0, 1])
        self.assert_told([1, 2, 1, 2, 1], 4, [2, 0, 3, 1, 2])
        self.assert_told([0, 5, 0, 5], 3, [2, 0, 2, 1])

    def test_no_jobs(self):
        for benches in (1, 2, 20):
            self.assert_told([], benches, [])

    def test_one_bench(self):
        self.assert_told([3, 1, 0, 2], 1, [0, 0, 0, 0])

    def test_more_benches_than_jobs(self):
        self.assert_told([1, 3, 2], 5, [2, 0, 1])
        self.assert_told([7], 20, [0])

    def test_every_small_list(self):
        for length in range(5):
            for jobs in itertools.product((0, 1, 2, 3), repeat=length):
                for benches in (1, 2, 3):
                    self.assert_told(list(jobs), benches, by_length_by_the_words(list(jobs), benches))

    def test_many_jobs(self):
        for jobs in LARGE:
            for benches in (1, 2, 3, 7, 19, 20):
                self.assert_told(jobs, benches, by_length_by_the_words(jobs, benches))


class Loads(BenchesCase):
    def assert_load(self, jobs, benches, dealing, load):
        told = load_of(jobs, benches, dealing)
        self.assertEqual(told, load)
        self.assertIs(type(told), int)

    def test_by_hand(self):
        self.assert_load([3, 1, 2], 2, [0, 1, 1], 3)
        self.assert_load([3, 1, 2], 2, [1, 0, 1], 5)
        self.assert_load([3, 1, 2], 2, [1, 1, 1], 6)
        self.assert_load([3, 1, 2], 5, [4, 2, 3], 3)
        self.assert_load([MOST] * 60, 1, [0] * 60, 60 * MOST)
        self.assert_load([0, 0], 2, [1, 0], 0)

    def test_no_jobs(self):
        for benches in (1, 2, 20):
            self.assert_load([], benches, [], 0)

    def test_every_small_dealing(self):
        for dealing in itertools.product(range(3), repeat=4):
            self.assert_load([5, 3, 0, 4], 3, list(dealing), max(loads([5, 3, 0, 4], 3, dealing)))

    def test_many_jobs(self):
        for jobs in LARGE:
            for benches in (1, 2, 7, 20):
                for dealing in (deal_in_order(jobs, benches), [job % benches for job in range(len(jobs))]):
                    self.assert_load(jobs, benches, dealing, max(loads(jobs, benches, dealing)))


class Bound(BenchesCase):
    def assert_bound(self, jobs, benches, bound):
        told = load_bound(jobs, benches)
        self.assertEqual(told, bound)
        self.assertIs(type(told), tuple)
        self.assertEqual([type(number) for number in told], [int, int])

    def test_longest_job(self):
        self.assert_bound([5, 1, 1], 2, (5, 1))
        self.assert_bound([1, MOST, 1], 2, (MOST, 1))
        self.assert_bound([3, 2], 2, (3, 1))
        self.assert_bound([7], 1, (7, 1))
        self.assert_bound([7], 20, (7, 1))

    def test_all_over_the_benches(self):
        self.assert_bound([1, 1, 1, 1, 1], 2, (5, 2))
        self.assert_bound([3] * 8, 3, (8, 1))
        self.assert_bound([1] * 60, 7, (60, 7))
        self.assert_bound([MOST] * 60, 7, (60 * MOST, 7))
        self.assert_bound([5, 2, 3], 1, (10, 1))

    def test_two_at_the_places_benches_and_one_more(self):
        self.assert_bound([5, 4, 3], 2, (7, 1))
        self.assert_bound([3, 5, 4], 2, (7, 1))
        self.assert_bound([4, 4, 4], 2, (8, 1))
        self.assert_bound([3, 3, 3, 3], 3, (6, 1))
        self.assert_bound([9, 9, 1, 5, 5, 5], 4, (10, 1))

    def test_as_many_jobs_as_benches_and_one_more(self):
        self.assert_bound([4, 4], 2, (4, 1))
        self.assert_bound([4, 4, 4], 3, (4, 1))
        self.assert_bound([4, 4, 4, 4], 3, (8, 1))
        self.assert_bound([1] * 20, 20, (1, 1))
        self.assert_bound([1] * 21, 20, (2, 1))
        self.assert_bound([4, 4, 0], 2, (4, 1))
        self.assert_bound([4, 4, 1], 2, (5, 1))

    def test_in_lowest_terms(self):
        self.assert_bound([1] * 10, 4, (5, 2))
        self.assert_bound([2] * 20, 8, (5, 1))
        self.assert_bound([1] * 50, 20, (5, 2))

    def test_no_jobs(self):
        for benches in (1, 2, 3, 20):
            self.assert_bound([], benches, (0, 1))

    def test_lengths_of_nought(self):
        self.assert_bound([0], 1, (0, 1))
        self.assert_bound([0] * 60, 7, (0, 1))

    def test_every_small_list(self):
        for length in range(6):
            for jobs in itertools.product((0, 1, 2, 5), repeat=length):
                for benches in (1, 2, 3, 4):
                    bound = bound_by_the_words(jobs, benches)
                    self.assert_bound(list(jobs), benches, (bound.numerator, bound.denominator))

    def test_many_jobs(self):
        for jobs in LARGE:
            for benches in range(1, 21):
                bound = bound_by_the_words(jobs, benches)
                self.assert_bound(jobs, benches, (bound.numerator, bound.denominator))


class Factors(BenchesCase):
    def assert_within(self, jobs, benches):
        """Both rules' loads are within their factors of the bound, which is told."""
        bound = Fraction(*load_bound(jobs, benches))
        first = load_of(jobs, benches, deal_in_order(jobs, benches))
        second = load_of(jobs, benches, deal_by_length(jobs, benches))
        self.assertLessEqual(bound, min(first, second))
        self.assertLessEqual(first, (2 - Fraction(1, benches)) * bound)
        self.assertLessEqual(second, (Fraction(3, 2) - Fraction(1, 2 * benches)) * bound)
        return (bound, second)

    def test_many_jobs(self):
        for jobs in LARGE:
            for benches in range(1, 21):
                self.assert_within(jobs, benches)
                self.assert_within(jobs[::-1], benches)

    def test_worst_cases(self):
        for benches in range(2, 9):
            self.assert_within(worst_in_order(benches)[0], benches)
        for benches in range(2, 21):
            self.assert_within(worst_by_length(benches)[0], benches)

    def test_against_the_least_load(self):
        for length in range(6):
            for jobs in itertools.combinations_with_replacement((0, 1, 2, 3, 5), length):
                for benches in (1, 2, 3):
                    least = least_load(jobs, benches)
                    bound, second = self.assert_within(list(jobs), benches)
                    self.assertLessEqual(bound, least)
                    self.assertLessEqual(second, (Fraction(4, 3) - Fraction(1, 3 * benches)) * least)


class Worst(BenchesCase):
    def assert_case(self, told, benches, jobs, load):
        self.assertIs(type(told), tuple)
        self.assertEqual([type(part) for part in told], [list, list])
        self.assertEqual(told[0], jobs)
        other = told[1]
        self.assertTrue(all(type(number) is int for part in told for number in part))
        self.assertEqual(len(other), len(jobs))
        self.assertTrue(set(other) <= set(range(benches)))
        self.assertEqual(max(loads(jobs, benches, other)), load)
        self.assertEqual(load_of(jobs, benches, other), load)

    def test_in_order_for_each_number_of_benches(self):
        for m in range(2, 9):
            with self.subTest(benches=m):
                self.assert_case(worst_in_order(m), m, [1] * (m * (m - 1)) + [m], m)

    def test_the_first_rule_there(self):
        for m in range(2, 9):
            jobs = worst_in_order(m)[0]
            self.assertEqual(load_of(jobs, m, deal_in_order(jobs, m)), 2 * m - 1)

    def test_by_length_for_each_number_of_benches(self):
        for m in range(2, 21):
            with self.subTest(benches=m):
                jobs = sorted(2 * list(range(m + 1, 2 * m)), reverse=True) + [m, m, m]
                self.assert_case(worst_by_length(m), m, jobs, 3 * m)

    def test_smallest_by_hand(self):
        self.assertEqual(worst_by_length(2)[0], [3, 3, 2, 2, 2])
        self.assertEqual(worst_by_length(3)[0], [5, 5, 4, 4, 3, 3, 3])
        self.assertEqual(worst_in_order(2)[0], [1, 1, 2])
        self.assertEqual(worst_in_order(3)[0], [1, 1, 1, 1, 1, 1, 3])

    def test_the_second_rule_there(self):
        for m in range(2, 21):
            jobs = worst_by_length(m)[0]
            self.assertEqual(load_of(jobs, m, deal_by_length(jobs, m)), 4 * m - 1)


class Kept(BenchesCase):
    def test_what_is_handed_in_stays(self):
        for jobs in LARGE:
            before = copy.deepcopy(jobs)
            for benches in (1, 2, 20):
                dealing = deal_in_order(jobs, benches)
                deal_by_length(jobs, benches)
                load_bound(jobs, benches)
                paper = copy.deepcopy(dealing)
                load_of(jobs, benches, dealing)
                self.assertEqual(dealing, paper)
                self.assertEqual(jobs, before)

    def test_told_lists_are_the_askers_own(self):
        jobs = [1, 2, 3, 4]
        for rule, dealing in ((deal_in_order, [0, 1, 0, 1]), (deal_by_length, [0, 1, 1, 0])):
            first = rule(jobs, 2)
            first.append(9)
            first[0] = 9
            self.assertEqual(rule(jobs, 2), dealing)
            rule([], 2).append(9)
            self.assertEqual(rule([], 2), [])

    def test_told_lists_stay(self):
        jobs = [1, 2, 3, 4]
        told = (deal_in_order(jobs, 2), deal_by_length(jobs, 2))
        jobs.clear()
        deal_in_order([4, 1, 1], 2)
        deal_by_length([1, 1, 4], 2)
        self.assertEqual(told, ([0, 1, 0, 1], [0, 1, 1, 0]))

    def test_worst_cases_are_the_askers_own(self):
        for worst in (worst_in_order, worst_by_length):
            before = copy.deepcopy(worst(3))
            jobs, other = worst(3)
            jobs.clear()
            other[0] = 9
            self.assertEqual(worst(3), before)


if __name__ == "__main__":
    unittest.main()
