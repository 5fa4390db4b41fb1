"""[16]: two sites, with what [1], [2] and [3] say of them."""

import itertools
import unittest

from lapseseats.splits import best_splits, unserved


def by_handing_out(seats, here, wishes):
    """The greatest number of those who get none, by handing out seats one by one."""
    greatest = 0
    for pair in wishes:
        without = 0
        for wanted, free in zip(pair, (here, seats - here)):
            while wanted > 0:
                if free > 0:
                    free -= 1
                else:
                    without += 1
                wanted -= 1
        greatest = max(greatest, without)
    return greatest


def best_by_trying(seats, wishes):
    best = None
    for here in range(seats + 1):
        told = by_handing_out(seats, here, wishes)
        if best is None or told < best[0]:
            best = (told, [])
        if told == best[0]:
            best[1].append(here)
    return tuple(best[1])


def some_wishes():
    """Sequences of one to six pairs with numbers from 0 to 9, mixed by a number."""
    seed = 7
    for many in range(1, 7):
        for _ in range(30):
            pairs = []
            for _ in range(many):
                seed = (seed * 1103515245 + 12345) & 0x7fffffff
                pairs.append(((seed >> 8) % 10, (seed >> 16) % 10))
            yield pairs


class UnservedTest(unittest.TestCase):
    def test_by_hand(self):
        self.assertEqual(unserved(4, 1, [(3, 1), (0, 4)]), 2)
        self.assertEqual(unserved(4, 2, [(3, 1), (0, 4)]), 2)
        self.assertEqual(unserved(4, 2, [(3, 1)]), 1)
        self.assertEqual(unserved(5, 3, [(3, 2)]), 0)

    def test_both_sites_count_together(self):
        self.assertEqual(unserved(2, 1, [(3, 4)]), 5)

    def test_seats_left_at_one_site_do_not_help_the_other_one(self):
        self.assertEqual(unserved(6, 5, [(0, 4)]), 3)
        self.assertEqual(unserved(6, 1, [(4, 0)]), 3)
        self.assertEqual(unserved(9, 9, [(1, 1), (0, 0)]), 1)

    def test_the_greatest_and_not_the_sum(self):
        self.assertEqual(unserved(2, 1, [(2, 1), (3, 1), (1, 2)]), 2)
        self.assertEqual(unserved(0, 0, [(1, 2), (2, 2), (0, 1)]), 4)

    def test_here_of_0_and_of_seats(self):
        self.assertEqual([unserved(3, here, [(2, 2)]) for here in range(4)], [2, 1, 1, 2])
        self.assertEqual((unserved(3, 0, [(5, 0)]), unserved(3, 3, [(5, 0)])), (5, 2))
        self.assertEqual((unserved(3, 0, [(0, 5)]), unserved(3, 3, [(0, 5)])), (2, 5))

    def test_no_seats(self):
        self.assertEqual(unserved(0, 0, [(2, 3)]), 5)
        self.assertEqual(unserved(0, 0, [(0, 0)]), 0)

    def test_wishes_of_0(self):
        for here in range(5):
            self.assertEqual(unserved(4, here, [(0, 0)]), 0)
            self.assertEqual(unserved(4, here, [(0, 0), (0, 0)]), 0)

    def test_by_handing_out(self):
        for pairs in some_wishes():
            for seats in (0, 1, 5, 9):
                for here in range(seats + 1):
                    self.assertEqual(unserved(seats, here, pairs), by_handing_out(seats, here, pairs))

    def test_all_of_one_small_pair(self):
        for seats, one, other in itertools.product(range(4), range(5), range(5)):
            for here in range(seats + 1):
                self.assertEqual(
                    unserved(seats, here, [(one, other)]), by_handing_out(seats, here, [(one, other)]),
                )

    def test_greatest_numbers(self):
        self.assertEqual(unserved(9, 4, [(9, 9)] * 6), 9)
        self.assertEqual(unserved(9, 0, [(9, 0), (0, 9), (9, 9), (1, 1), (5, 4), (4, 5)]), 9)


class BestSplitsTest(unittest.TestCase):
    def test_by_hand(self):
        self.assertEqual(best_splits(4, [(3, 1), (0, 4)]), (1, 2))
        self.assertEqual(best_splits(4, [(3, 1)]), (3,))
        self.assertEqual(best_splits(9, [(9, 0)]), (9,))
        self.assertEqual(best_splits(9, [(0, 9)]), (0,))

    def test_all_of_several(self):
        self.assertEqual(best_splits(3, [(0, 0)]), (0, 1, 2, 3))
        self.assertEqual(best_splits(3, [(1, 1)]), (1, 2))
        self.assertEqual(best_splits(3, [(9, 9)]), (0, 1, 2, 3))
        self.assertEqual(best_splits(5, [(3, 0), (0, 3)]), (2, 3))
        self.assertEqual(best_splits(4, [(3, 0), (0, 3)]), (2,))

    def test_no_seats(self):
        for pairs in ([(0, 0)], [(3, 0), (9, 9)]):
            self.assertEqual(best_splits(0, pairs), (0,))

    def test_by_trying(self):
        for pairs in some_wishes():
            for seats in (0, 1, 2, 5, 9):
                self.assertEqual(best_splits(seats, pairs), best_by_trying(seats, pairs))

    def test_all_of_two_small_pairs(self):
        pairs = list(itertools.product(range(4), range(4)))
        for seats, wishes in itertools.product(range(5), itertools.combinations(pairs, 2)):
            self.assertEqual(best_splits(seats, wishes), best_by_trying(seats, wishes), (seats, wishes))

    def test_many_more_seats_than_wishes(self):
        self.assertEqual(best_splits(2000001, [(9, 0), (0, 7), (5, 5)]), tuple(range(9, 2000001 - 7 + 1)))
        self.assertEqual(best_splits(9, [(2000001, 9), (9, 2000001)]), tuple(range(10)))
        self.assertEqual(best_splits(9, [(2000001, 0), (0, 1999998)]), (6,))

    def test_they_are_least_by_unserved(self):
        for pairs in some_wishes():
            told = [unserved(9, here, pairs) for here in range(10)]
            self.assertEqual(best_splits(9, pairs), tuple(here for here in range(10) if told[here] == min(told)))


class ArgumentsTest(unittest.TestCase):
    def test_lists_and_tuples(self):
        pairs = [(3, 1), (0, 4)]
        self.assertEqual(unserved(4, 1, tuple(pairs)), unserved(4, 1, pairs))
        self.assertEqual(best_splits(4, tuple(pairs)), best_splits(4, pairs))

    def test_the_order_of_pairs_does_not_matter(self):
        for pairs in itertools.permutations([(3, 1), (0, 4), (2, 2)]):
            self.assertEqual((unserved(4, 1, pairs), best_splits(4, pairs)), (2, (1, 2)))

    def test_arguments_by_name(self):
        self.assertEqual(unserved(wishes=[(3, 1)], here=1, seats=4), 2)
        self.assertEqual(best_splits(wishes=[(3, 1)], seats=4), (3,))

    def test_arguments_are_not_changed(self):
        pairs = [(3, 1), (0, 4)]
        self.assertEqual((unserved(4, 1, pairs), best_splits(4, pairs)), (2, (1, 2)))
        self.assertEqual(pairs, [(3, 1), (0, 4)])

    def test_kinds_of_results(self):
        self.assertIs(type(unserved(4, 1, [(3, 1)])), int)
        self.assertEqual({type(best_splits(4, [(1, 1)])), *map(type, best_splits(4, [(1, 1)]))}, {tuple, int})

    def test_the_same_call_again(self):
        first = best_splits(5, [(3, 1), (0, 4)])
        best_splits(9, [(0, 9)])
        self.assertEqual(best_splits(5, [(3, 1), (0, 4)]), first)

    def test_what_was_returned_is_passed_on(self):
        pairs = [(3, 1), (0, 4)]
        for here in best_splits(4, pairs):
            self.assertEqual(unserved(4, here, pairs), 2)
        self.assertEqual(best_splits(unserved(4, 1, pairs), pairs), (0, 1))


if __name__ == "__main__":
    unittest.main()
