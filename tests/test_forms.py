"""[12], [13]: the forms, with what [1], [2] and [3] say of them."""

import itertools
import unittest

from lapseseats.deciding import happens, most
from lapseseats.forms import (
    choices, fine_beats, least_words, longest_alone, per_seat, safe_grace, safe_lapse,
)
from lapseseats.rules import Rule
from tests.helpers import (
    PASS, least_by_search, passed, seat_of, start, states_by_events, step, with_age_0,
)

RULE = Rule(2, 3, 2, 5, 1)
MILLION = 1000000
GREAT = Rule(4, MILLION, MILLION, MILLION, MILLION)


def small_rules():
    for numbers in itertools.product((1, 3), (1, 2, 3, 4, 7), (1, 2, 3, 5), (1, 2, 4), (0, 1, 3)):
        yield Rule(*numbers)


class PerSeatTest(unittest.TestCase):
    def test_ordinary(self):
        self.assertEqual(per_seat(RULE), 3)
        self.assertEqual([per_seat(RULE.but("lapse", lapse)) for lapse in range(1, 9)], [7, 4, 3, 2, 2, 2, 1, 1])
        self.assertEqual(per_seat(rule=Rule(1, 1, 1, 1)), 2)

    def test_seats_and_beat_do_not_matter(self):
        for seats, beat in itertools.product((1, 2, 4), (1, 9, MILLION)):
            self.assertEqual(per_seat(Rule(seats, 3, beat, 5, 1)), 3)

    def test_it_is_what_can_use_at_one_seat(self):
        for rule in small_rules():
            self.assertEqual(per_seat(rule), most(rule.but("seats", 1), 60))

    def test_by_search(self):
        for numbers in ((1, 1, 1, 1, 0), (1, 1, 1, 1, 1), (1, 2, 1, 2, 0), (1, 2, 1, 1, 0)):
            rule = Rule(*numbers)
            users = per_seat(rule) + 1
            many = states_by_events(rule, users)
            self.assertEqual(max(len(using) for using, _, _ in many), users - 1)

    def test_great_numbers(self):
        self.assertEqual((per_seat(GREAT), per_seat(GREAT.but("lapse", 1))), (3, 2 * MILLION + 1))
        self.assertEqual((per_seat(GREAT.but("late", 0)), per_seat(Rule(1, MILLION, 1, 1))), (2, 1))


class SafeTest(unittest.TestCase):
    def test_lapse(self):
        self.assertEqual((safe_lapse(RULE), safe_lapse(Rule(1, 9, 9, 1)), safe_lapse(rule=RULE)), (7, 2, 7))
        for rule in small_rules():
            safe = [lapse for lapse in range(1, 12) if not happens(rule.but("lapse", lapse), 60, "over")]
            self.assertEqual(safe_lapse(rule), min(safe))

    def test_grace(self):
        self.assertEqual((safe_grace(RULE), safe_grace(rule=Rule(1, 9, 1, 1, 3))), (1, 5))
        for rule in small_rules():
            safe = [grace for grace in range(1, 12) if not happens(rule.but("grace", grace), 60, "over")]
            self.assertEqual(safe_grace(rule), max(safe) if safe else None)

    def test_no_grace(self):
        found = [safe_grace(Rule(1, lapse, 1, 9, 2)) for lapse in range(1, 7)]
        self.assertEqual(found, [None, None, None, 1, 2, 3])
        self.assertIsNone(safe_grace(Rule(1, 1, 1, 1)))
        self.assertEqual(safe_grace(Rule(1, 2, 1, 1)), 1)

    def test_by_search(self):
        for grace, late in ((1, 0), (1, 1), (2, 0)):
            rule = Rule(1, 1, 1, grace, late)
            for lapse in (safe_lapse(rule) - 1, safe_lapse(rule)):
                other = rule.but("lapse", lapse)
                least = least_by_search(other, 2, states_by_events(other, 2))
                self.assertEqual("over" in least, lapse < safe_lapse(rule))

    def test_great_numbers(self):
        self.assertEqual((safe_lapse(GREAT), safe_grace(GREAT)), (2 * MILLION + 1, None))
        self.assertEqual(safe_grace(GREAT.but("late", 0)), MILLION - 1)
        self.assertEqual(safe_grace(GREAT.but("late", MILLION - 2)), 1)
        self.assertIsNone(safe_grace(GREAT.but("late", MILLION - 1)))


class BeatsTest(unittest.TestCase):
    def test_ordinary(self):
        self.assertEqual(fine_beats(RULE, 6), (1,))
        self.assertEqual(fine_beats(RULE.but("lapse", 4), 6), (1, 2))
        self.assertEqual(fine_beats(longest=2, rule=RULE.but("lapse", 5)), (1, 2))

    def test_none_and_all(self):
        self.assertEqual(fine_beats(RULE.but("lapse", 2), 60), ())
        self.assertEqual(fine_beats(RULE.but("lapse", 6), 60), (1, 2, 3, 4))
        self.assertEqual(fine_beats(RULE.but("lapse", 7), 60), tuple(range(1, 61)))

    def test_longest(self):
        self.assertEqual((fine_beats(RULE, 1), fine_beats(RULE.but("lapse", 2), 1)), ((1,), ()))
        self.assertEqual(fine_beats(RULE.but("grace", 99).but("lapse", 61), 60), tuple(range(1, 60)))
        self.assertEqual(fine_beats(RULE.but("grace", 99).but("lapse", 62), 60), tuple(range(1, 61)))

    def test_the_beat_of_the_rule_does_not_matter(self):
        for beat in (1, 2, 9, MILLION):
            self.assertEqual(fine_beats(Rule(2, 4, beat, 5, 1), 6), (1, 2))

    def test_by_search(self):
        for numbers in itertools.product((1,), (1, 2, 3, 4), (1,), (1, 2, 3), (0, 1)):
            rule = Rule(*numbers)
            others = [rule.but("beat", beat) for beat in range(1, 5)]
            fine = [one.beat for one in others if "taken" not in least_by_search(one, 1, states_by_events(one, 1))]
            self.assertEqual(fine_beats(rule, 4), tuple(fine))

    def test_great_numbers(self):
        self.assertEqual(fine_beats(GREAT, 60), ())
        self.assertEqual(fine_beats(GREAT.but("late", 0), 60), tuple(range(1, 61)))
        self.assertEqual(fine_beats(GREAT.but("late", MILLION - 5), 60), (1, 2, 3, 4))

    def test_longest_as_great_as_what_was_returned(self):
        self.assertEqual(fine_beats(GREAT, safe_lapse(GREAT)), ())
        self.assertEqual(fine_beats(GREAT.but("late", 0), safe_lapse(GREAT)), tuple(range(1, MILLION)))
        rule = GREAT.but("lapse", safe_lapse(GREAT))
        self.assertEqual(fine_beats(rule, safe_lapse(GREAT)), tuple(range(1, 2 * MILLION + 2)))

    def test_no_beats(self):
        for rule in (RULE, RULE.but("lapse", 9)):
            self.assertEqual(fine_beats(rule, 0), ())


class ChoicesTest(unittest.TestCase):
    def test_ordinary(self):
        self.assertEqual(choices(RULE, 7), ((1, 7), (2, 4), (3, 3), (4, 2), (7, 1)))
        self.assertEqual(choices(longest=6, rule=RULE), ((1, 7), (2, 4), (3, 3), (4, 2)))
        self.assertEqual(choices(Rule(1, 9, 9, 1), 9), ((1, 2), (2, 1)))

    def test_longest(self):
        self.assertEqual(choices(RULE, 1), ((1, 7),))
        self.assertEqual(choices(RULE, 60), choices(RULE, 7))
        self.assertEqual(choices(Rule(1, 1, 1, 59), 60)[-2:], ((30, 2), (60, 1)))

    def test_by_comparing_all(self):
        for rule in small_rules():
            for longest in (1, 2, 5, 60):
                pairs = [(lapse, per_seat(rule.but("lapse", lapse))) for lapse in range(1, longest + 1)]
                best = [one for one in pairs if not any(two[0] < one[0] and two[1] <= one[1] for two in pairs)]
                self.assertEqual(choices(rule, longest), tuple(best))

    def test_the_lapse_of_the_rule_does_not_matter(self):
        for lapse in (1, 4, MILLION):
            self.assertEqual(choices(RULE.but("lapse", lapse), 9), choices(RULE, 9))

    def test_great_numbers(self):
        expected = tuple((lapse, 2 * MILLION // lapse + 1) for lapse in range(1, 61))
        self.assertEqual(choices(GREAT, 60), expected)

    def test_longest_as_great_as_what_was_returned(self):
        found = choices(GREAT, safe_lapse(GREAT))
        self.assertEqual(found[:60], choices(GREAT, 60))
        self.assertEqual(found[-3:], ((666667, 3), (1000001, 2), (2000001, 1)))
        self.assertEqual(choices(GREAT, safe_lapse(GREAT) - 1), found[:-1])
        # Ahead of each lapse, the one below has more per seat, as many as the one found before.
        for (_, ahead), (lapse, many) in zip(found, found[1:]):
            self.assertEqual(per_seat(GREAT.but("lapse", lapse - 1)), ahead)
            self.assertLess(many, ahead)

    def test_no_lapses(self):
        self.assertEqual(choices(RULE, 0), ())

    def test_results_are_tuples(self):
        found = choices(RULE, 3)
        self.assertEqual({type(found), *map(type, found)}, {tuple})
        self.assertIs(type(fine_beats(RULE, 3)), tuple)


class WordsTest(unittest.TestCase):
    def by_search(self, rule, span):
        fewest = {with_age_0(start(rule), 0, 0): 0}
        for _ in range(span):
            later = {}
            for state, words in fewest.items():
                spoken = step(rule, state, ("word", 0))[0]
                for ahead, many in ((state, words), (spoken, words + 1)):
                    told = passed(rule, ahead)
                    if told is not None and seat_of(0, told[0][1]) is not None:
                        later[told[0]] = min(many, later.get(told[0], many))
            fewest = later
        return min(fewest.values()) if fewest else None

    def test_ordinary(self):
        self.assertEqual([least_words(RULE, span) for span in range(8)], [0, 0, 0, 1, 1, 2, 2, 3])
        self.assertEqual(least_words(span=10, rule=RULE), 4)

    def test_each_limit(self):
        self.assertEqual([least_words(Rule(1, 9, 2, 9, 1), span) for span in (3, 4, 6, 7)], [0, 1, 1, 2])
        self.assertEqual([least_words(Rule(1, 9, 9, 2, 1), span) for span in (3, 4, 6, 7)], [0, 1, 1, 2])
        self.assertEqual([least_words(Rule(1, 4, 9, 9, 1), span) for span in (3, 4, 6, 7)], [0, 1, 1, 2])

    def test_a_lapse_of_1(self):
        rule = Rule(4, 1, 9, 9, 9)
        self.assertEqual([least_words(rule, span) for span in (0, 1, 2, 60)], [0, None, None, None])

    def test_by_search(self):
        for rule in small_rules():
            for span in range(0, 14):
                self.assertEqual(least_words(rule, span), self.by_search(rule, span), f"{rule}, {span}")

    def test_span_of_0_and_60(self):
        for rule in (*small_rules(), GREAT):
            self.assertEqual(least_words(rule, 0), 0)
        self.assertEqual([least_words(Rule(1, 9, beat, 9), 60) for beat in (1, 2, 7, 8, 9)], [59, 29, 8, 7, 7])

    def test_great_numbers(self):
        self.assertEqual((least_words(GREAT, 60), least_words(GREAT.but("lapse", 1), 60)), (0, None))
        self.assertEqual(least_words(GREAT.but("lapse", 2), 60), 59)


class AloneTest(unittest.TestCase):
    def by_search(self, rule):
        state, passes = start(rule), 0
        for event in (("borrow", 0), ("cut", 0)):
            state = step(rule, state, event)[0]
        while (told := step(rule, state, PASS)) is not None:
            state, passes = told[0], passes + 1
        return passes

    def test_ordinary(self):
        self.assertEqual((longest_alone(RULE), longest_alone(rule=Rule(1, 1, 1, 1))), (6, 1))

    def test_by_search(self):
        for rule in small_rules():
            self.assertEqual(longest_alone(rule), self.by_search(rule))

    def test_great_numbers(self):
        self.assertEqual(longest_alone(GREAT), 2 * MILLION)


class AgainTest(unittest.TestCase):
    def test_the_same_call_again(self):
        def told():
            return (fine_beats(RULE, 9), choices(RULE, 9), least_words(RULE, 9), safe_grace(RULE), str(RULE))

        first = told()
        for rule in small_rules():
            choices(rule, 5)
        self.assertEqual(told(), first)


if __name__ == "__main__":
    unittest.main()
