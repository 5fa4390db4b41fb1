"""[10], [11]: what can happen in some day, with what [1], [2] and [3] say of it."""

import itertools
import unittest

from lapseseats.days import Day
from lapseseats.deciding import day, faults, happens, least_events, longest_kept, most
from lapseseats.errors import InvalidFault
from lapseseats.plays import play
from lapseseats.rules import Rule
from tests.helpers import (
    FAULTS, NO_SEQUENCES, NO_STRINGS, PASS, kept_by_search, least_by_search, states_by_events,
)

RULE = Rule(2, 3, 2, 5, 1)
MILLION = 1000000

NO_FAULTS = (
    *NO_STRINGS,
    *NO_SEQUENCES,
    "",
    "Over",
    "over ",
    " over",
    "overtaken",
    "o",
    "calm",
    "over twice",
    "seats",
    ("over",),
    ["over"],
    [["twice"], ("waits", [None])],
    FAULTS,
    list(FAULTS),
    10 ** 30,
    -1,
)

SEARCHED = (
    *[((1, *rest), users) for rest in itertools.product((1, 2, 3), (1, 2), (1, 2, 3), (0, 1)) for users in (1, 2)],
    *[((2, *rest), 2) for rest in itertools.product((1, 2, 3), (1, 3), (1, 2), (0, 1))],
    *[((1, *rest), 3) for rest in itertools.product((1, 2, 3), (1, 2), (1, 2), (0,))],
    ((1, 1, 1, 1, 2), 3),
    ((2, 1, 1, 1, 0), 3),
    ((2, 1, 2, 1, 0), 4),
    ((2, 2, 1, 1, 1), 3),
    ((2, 2, 1, 2, 0), 3),
    ((2, 2, 2, 1, 0), 3),
    ((3, 1, 1, 1, 0), 3),
    ((3, 2, 1, 1, 0), 4),
)


class SearchTest(unittest.TestCase):
    """What is decided against a search through all days."""

    def compare(self, rule, users):
        many = states_by_events(rule, users)
        least = least_by_search(rule, users, many)
        self.assertEqual(most(rule, users), max(len(using) for using, _, _ in many))
        self.assertEqual(faults(rule, users), tuple(sorted(least)))
        self.assertEqual(longest_kept(rule), kept_by_search(rule, users, many))
        for fault in FAULTS:
            self.assertIs(happens(rule, users, fault), fault in least)
            self.assertEqual(least_events(rule, users, fault), least.get(fault))

    def test_small_rules(self):
        for numbers, users in SEARCHED:
            with self.subTest(numbers=numbers, users=users):
                self.compare(Rule(*numbers), users)


class MostTest(unittest.TestCase):
    def test_ordinary(self):
        self.assertEqual([most(RULE, users) for users in (1, 2, 5, 6, 7, 60)], [1, 2, 5, 6, 6, 6])
        self.assertEqual(most(Rule(1, 1, 1, 1), 60), 2)
        self.assertEqual(most(Rule(4, 2, 9, 1), 60), 4)
        self.assertEqual(most(rule=RULE, users=9), 6)

    def test_at_the_lapse(self):
        # With a grace and late of 6 a seat has one user more as soon as a multiple of the lapse is reached.
        found = [most(Rule(2, lapse, 1, 4, 2), 60) for lapse in range(1, 9)]
        self.assertEqual(found, [14, 8, 6, 4, 4, 4, 2, 2])

    def test_the_beat_does_not_matter(self):
        for beat in (1, 2, 9, MILLION):
            self.assertEqual(most(RULE.but("beat", beat), 60), 6)

    def test_great_numbers(self):
        self.assertEqual(most(Rule(4, 1, 1, MILLION, MILLION), 60), 60)
        self.assertEqual(most(Rule(4, MILLION, 1, MILLION, MILLION), 60), 12)
        self.assertEqual(most(Rule(4, MILLION, 1, MILLION, MILLION - 1), 60), 8)
        self.assertEqual(most(Rule(4, MILLION, 1, MILLION - 1), 60), 4)

    def test_the_way_of_the_document(self):
        # Each is cut off at once, and the next one borrows as soon as the seat is given up.
        for numbers in ((1, 2, 1, 5, 1), (1, 3, 9, 9, 0), (2, 2, 1, 5, 0), (3, 1, 1, 2, 1)):
            rule = Rule(*numbers)
            events = []
            for user in range(most(rule, 60)):
                if user and user % rule.seats == 0:
                    events += [PASS] * rule.lapse
                events += [("borrow", user), ("cut", user)]
            self.assertEqual(play(rule, Day(events)).peak, most(rule, 60))


class HappensTest(unittest.TestCase):
    def test_ordinary(self):
        self.assertEqual([faults(RULE, users) for users in (1, 2, 3)], [
            ("taken",), ("taken", "twice"), ("over", "taken", "twice", "waits"),
        ])
        self.assertEqual(faults(Rule(1, 9, 1, 1), 60), ("waits",))
        self.assertEqual(faults(Rule(1, 9, 1, 1), 1), ())
        self.assertEqual(faults(Rule(2, 2, 1, 2), 60), ("over", "twice", "waits"))
        self.assertEqual(faults(rule=RULE, users=1), ("taken",))

    def test_results_are_bools(self):
        for fault in FAULTS:
            for users in (1, 2, 3):
                self.assertIs(happens(RULE, users, fault), fault in faults(RULE, users))
        self.assertIs(happens(fault="taken", users=1, rule=RULE), True)

    def test_taken_needs_the_beat_and_the_grace(self):
        for beat, grace, late in ((1, 4, 2), (4, 1, 2), (3, 3, 0), (2, 3, 1)):
            for lapse in range(1, 9):
                rule = Rule(1, lapse, beat, grace, late)
                self.assertIs(happens(rule, 1, "taken"), lapse <= min(beat, grace) + late)

    def test_over_and_twice_need_the_grace(self):
        for lapse in range(1, 9):
            rule = Rule(1, lapse, 1, 3, 2)
            self.assertIs(happens(rule, 2, "over"), lapse <= 5)
            self.assertIs(happens(rule, 2, "twice"), lapse <= 5)

    def test_users(self):
        rule = Rule(4, 1, 1, 1)
        self.assertEqual([users for users in range(1, 9) if happens(rule, users, "over")], [5, 6, 7, 8])
        self.assertEqual([users for users in range(1, 9) if happens(rule, users, "waits")], [5, 6, 7, 8])
        self.assertEqual([users for users in range(1, 9) if happens(rule, users, "twice")], [2, 3, 4, 5, 6, 7, 8])
        self.assertEqual([users for users in range(1, 9) if happens(rule, users, "taken")], list(range(1, 9)))

    def test_great_numbers(self):
        rule = Rule(4, MILLION, 1, MILLION)
        self.assertEqual(faults(rule, 60), ("over", "twice", "waits"))
        self.assertEqual(faults(rule.but("grace", MILLION - 1), 60), ("waits",))
        self.assertEqual(faults(rule.but("beat", MILLION), 60), FAULTS)
        self.assertEqual(faults(rule.but("late", MILLION), 60), FAULTS)


class ShortestTest(unittest.TestCase):
    def test_ordinary(self):
        self.assertEqual([least_events(RULE, 3, fault) for fault in FAULTS], [6, 4, 5, 4])
        self.assertEqual([least_events(RULE, 1, fault) for fault in FAULTS], [None, 4, None, None])
        self.assertEqual(least_events(fault="over", users=3, rule=RULE), 6)

    def test_one_event_more_if_somebody_must_be_cut_off(self):
        for lapse, over, twice in ((1, 5, 3), (2, 6, 4), (3, 7, 5), (4, 9, 7), (5, 10, 8)):
            rule = Rule(3, lapse, 2, 8, 1)
            self.assertEqual((least_events(rule, 4, "over"), least_events(rule, 4, "twice")), (over, twice))

    def test_waits_for_each_number_of_seats(self):
        self.assertEqual([least_events(Rule(seats, 9, 1, 1), 60, "waits") for seats in (1, 2, 3, 4)], [3, 4, 5, 6])

    def test_great_numbers(self):
        rule = Rule(4, MILLION, 1, MILLION, MILLION)
        self.assertEqual([least_events(rule, 60, fault) for fault in FAULTS], [
            MILLION + 5, MILLION + 1, MILLION + 2, 6,
        ])
        rule = rule.but("late", 0)
        self.assertEqual([least_events(rule, 60, fault) for fault in FAULTS], [MILLION + 6, None, MILLION + 3, 6])

    def test_days(self):
        numbers = itertools.product((1, 2, 4), (1, 2, 3, 9), (1, 2, 9), (1, 3, 9), (0, 1, 9))
        for rule in [Rule(*given) for given in numbers]:
            for users, fault in itertools.product((1, 2, 3, 5, 60), FAULTS):
                found = day(rule, users, fault)
                if not happens(rule, users, fault):
                    self.assertIsNone(found)
                    continue
                self.assertIs(type(found), Day)
                self.assertEqual(len(found), least_events(rule, users, fault))
                self.assertIn(fault, [met for _, met in play(rule, found).met])
                self.assertTrue(all(event == PASS or event[1] < users for event in found.events))

    def test_day_by_name(self):
        self.assertEqual(str(day(fault="taken", rule=RULE, users=1)), "borrow 0; pass; pass; pass")


class InvalidFaultTest(unittest.TestCase):
    def test_values_that_are_no_fault(self):
        for call in (happens, least_events, day):
            for rule, users in ((RULE, 1), (RULE, 60), (Rule(1, 9, 1, 1), 1)):
                for value in NO_FAULTS:
                    with self.assertRaises(InvalidFault):
                        call(rule, users, value)


class KeptTest(unittest.TestCase):
    def test_longest_kept(self):
        for lapse in (1, 2, 3, 9, MILLION):
            for rest in ((1, 1, 0), (9, 9, 9), (1, 9, 0), (MILLION, MILLION, MILLION)):
                self.assertEqual(longest_kept(Rule(1, lapse, *rest)), lapse)
        self.assertEqual(longest_kept(rule=RULE), 3)


class AgainTest(unittest.TestCase):
    def test_the_same_call_again(self):
        first = [(most(RULE, users), faults(RULE, users)) for users in (1, 2, 3)]
        days = [str(day(RULE, 3, fault)) for fault in FAULTS]
        for users in (60, 1):
            for fault in FAULTS:
                day(Rule(1, 1, 1, 1), users, fault)
        self.assertEqual([(most(RULE, users), faults(RULE, users)) for users in (1, 2, 3)], first)
        self.assertEqual([str(day(RULE, 3, fault)) for fault in FAULTS], days)


if __name__ == "__main__":
    unittest.main()
