"""[7], [8], [9]: what happens, the faults, and plays, with what [1], [2] and [3] say of them."""

import itertools
import unittest

from lapseseats.days import Day
from lapseseats.errors import InvalidDay
from lapseseats.plays import Played, play, possible
from lapseseats.rules import Rule
from tests.helpers import (
    FAULTS, NO_EVENTS, PASS, USER_WORDS, all_events, start, step,
)

RULE = Rule(2, 3, 2, 5, 1)
WIDE = Rule(3, 9, 9, 9, 9)


def told_of(rule, text):
    return play(rule, Day.read(text))


class PlayCase(unittest.TestCase):
    def can(self, rule, text, event):
        told = possible(rule, Day.read(text), Day.read(event)[0])
        self.assertIs(told, True, f"{rule}: {text}; {event}")
        play(rule, Day.read(text) + Day.read(event))

    def cannot(self, rule, text, event):
        day = Day.read(text)
        self.assertIs(possible(rule, day, Day.read(event)[0]), False, f"{rule}: {text}; {event}")
        with self.assertRaises(InvalidDay) as caught:
            play(rule, day + Day.read(event))
        self.assertEqual(caught.exception.at, len(day))

    def met(self, rule, text, *expected):
        self.assertEqual(told_of(rule, text).met, expected, text)


class BorrowTest(PlayCase):
    def test_it_has_a_seat_and_both_ages_are_0(self):
        told = told_of(RULE, "borrow 4")
        self.assertEqual((told.using, told.kept), (((4, 0, 0),), ((4, 0), None)))

    def test_who_uses_cannot_borrow(self):
        self.cannot(RULE, "borrow 0", "borrow 0")
        self.cannot(RULE, "borrow 0; cut 0; pass; pass; pass; join 0", "borrow 0")
        self.can(RULE, "borrow 0", "borrow 1")

    def test_who_is_cut_off_cannot_borrow(self):
        self.cannot(RULE, "cut 0", "borrow 0")
        self.can(RULE, "cut 0", "borrow 1")
        self.can(RULE, "cut 0; join 0", "borrow 0")
        self.cannot(RULE, "borrow 0; cut 0; crash 0", "borrow 0")

    def test_the_lowest_free_seat(self):
        told = told_of(WIDE, "borrow 0; borrow 1; borrow 2; back 1; back 0; borrow 5; borrow 4")
        self.assertEqual(told.using, ((2, 2, 0), (4, 1, 0), (5, 0, 0)))
        told = told_of(WIDE, "borrow 0; borrow 1; borrow 2; back 1; borrow 3")
        self.assertEqual(told.kept, ((0, 0), (3, 0), (2, 0)))

    def test_a_seat_that_is_still_kept(self):
        told = told_of(WIDE, "borrow 0; borrow 1; crash 1; back 0; pass; borrow 1")
        self.assertEqual((told.using, told.kept), (((1, 1, 0),), (None, (1, 0), None)))

    def test_a_seat_that_is_still_kept_when_none_is_free(self):
        told = told_of(Rule(1, 3, 2, 5), "borrow 0; crash 0; pass; pass; borrow 0")
        self.assertEqual((told.using, told.kept, told.met), (((0, 0, 0),), ((0, 0),), ()))

    def test_a_seat_that_was_given_up_is_borrowed_anew(self):
        told = told_of(WIDE.but("lapse", 2), "borrow 0; borrow 1; crash 1; pass; word 0; pass; back 0; borrow 1")
        self.assertEqual((told.using, told.kept), (((1, 0, 0),), ((1, 0), None, None)))

    def test_who_is_sent_away_changes_nothing(self):
        ahead = told_of(RULE, "borrow 0; borrow 1; pass")
        told = told_of(RULE, "borrow 0; borrow 1; pass; borrow 2")
        self.assertEqual((told.using, told.kept, told.cut), (ahead.using, ahead.kept, ahead.cut))
        self.assertEqual((told.moment, told.met, told.peak), (1, (), 2))
        self.can(RULE, "borrow 0; borrow 1; borrow 2", "borrow 2")
        self.cannot(RULE, "borrow 0; borrow 1; borrow 2", "word 2")


class SpeakTest(PlayCase):
    def test_word_sets_both_ages_to_0(self):
        told = told_of(RULE, "borrow 0; borrow 1; pass; pass; word 1; pass; word 1")
        self.assertEqual(told.using, ((0, 0, 3), (1, 1, 0)))
        told = told_of(RULE, "borrow 0; borrow 1; pass; pass; word 1")
        self.assertEqual((told.using, told.kept), (((0, 0, 2), (1, 1, 0)), ((0, 2), (1, 0))))

    def test_word_for_a_seat_that_was_given_up(self):
        told = told_of(RULE, "borrow 0; pass; pass; pass; word 0")
        self.assertEqual((told.using, told.kept), ((), (None, None)))

    def test_word_for_a_seat_that_another_one_has(self):
        told = told_of(Rule(1, 2, 2, 5), "borrow 0; pass; pass; borrow 1; word 0")
        self.assertEqual((told.using, told.kept), (((1, 0, 0),), ((1, 0),)))

    def test_back_frees_the_seat(self):
        told = told_of(RULE, "borrow 0; borrow 1; pass; back 0")
        self.assertEqual((told.using, told.kept), (((1, 1, 1),), (None, (1, 1))))

    def test_back_of_a_seat_that_was_given_up(self):
        told = told_of(Rule(1, 2, 2, 5), "borrow 0; pass; pass; back 0")
        self.assertEqual((told.using, told.kept), ((), (None,)))
        told = told_of(Rule(1, 2, 2, 5), "borrow 0; pass; pass; borrow 1; back 0")
        self.assertEqual((told.using, told.kept), (((1, 0, 0),), ((1, 0),)))

    def test_who_does_not_use_cannot_speak(self):
        for event in ("word 0", "back 0"):
            for text in ("", "borrow 1", "borrow 0; crash 0", "borrow 0; back 0"):
                self.cannot(RULE, text, event)

    def test_who_is_cut_off_cannot_speak(self):
        for event in ("word 0", "back 0"):
            self.cannot(RULE, "borrow 0; cut 0", event)
            self.can(RULE, "borrow 0; cut 0; join 0", event)
            self.can(RULE, "borrow 0; cut 1", event)
            self.can(RULE, "borrow 0; cut 0; pass; pass; pass; pass; join 0", event)


class LeaveTest(PlayCase):
    def test_crash_leaves_the_seat_kept(self):
        told = told_of(RULE, "borrow 0; pass; crash 0")
        self.assertEqual((told.using, told.kept), ((), ((0, 1), None)))

    def test_crash_is_possible_for_who_uses(self):
        self.can(RULE, "borrow 0", "crash 0")
        self.can(RULE, "borrow 0; cut 0", "crash 0")
        self.cannot(RULE, "", "crash 0")
        self.cannot(RULE, "borrow 1", "crash 0")
        self.cannot(RULE, "borrow 0; crash 0", "crash 0")

    def test_stop_from_the_grace_on(self):
        for grace in (1, 2, 3, 5):
            rule = Rule(1, 9, 9, grace, 4)
            for age in range(grace + 5):
                text = "; ".join(["borrow 0", *["pass"] * age])
                if age < grace:
                    self.cannot(rule, text, "stop 0")
                else:
                    self.can(rule, text, "stop 0")

    def test_stop_leaves_the_seat_kept(self):
        told = told_of(Rule(1, 9, 9, 2), "borrow 0; pass; pass; stop 0")
        self.assertEqual((told.using, told.kept), ((), ((0, 2),)))

    def test_stop_of_who_is_cut_off_or_does_not_use(self):
        rule = Rule(1, 1, 1, 2)
        self.can(rule, "borrow 0; cut 0; pass; pass", "stop 0")
        self.cannot(rule, "borrow 0; cut 0; pass", "stop 0")
        self.cannot(rule, "", "stop 0")
        self.cannot(rule, "borrow 0; cut 0; pass; pass; crash 0", "stop 0")

    def test_a_word_keeps_from_stopping(self):
        self.cannot(Rule(1, 9, 9, 2), "borrow 0; pass; word 0; pass", "stop 0")


class CutTest(PlayCase):
    def test_cut_and_join(self):
        self.assertEqual(told_of(RULE, "cut 3; cut 1; cut 2; join 3").cut, (1, 2))
        self.assertEqual(told_of(RULE, "cut 3; join 3").cut, ())

    def test_cut_of_who_is_not_and_join_of_who_is(self):
        self.can(RULE, "", "cut 0")
        self.cannot(RULE, "", "join 0")
        self.cannot(RULE, "cut 0", "cut 0")
        self.can(RULE, "cut 0", "join 0")
        self.can(RULE, "cut 0", "cut 1")
        self.cannot(RULE, "cut 0", "join 1")
        self.cannot(RULE, "cut 0; join 0", "join 0")

    def test_neither_changes_seats(self):
        for text in ("borrow 0; pass; cut 0", "borrow 0; pass; cut 0; join 0"):
            told = told_of(RULE, text)
            self.assertEqual((told.using, told.kept), (((0, 0, 1),), ((0, 1), None)))


class PassTest(PlayCase):
    def test_at_first(self):
        self.can(RULE, "", "pass")
        self.assertEqual(told_of(RULE, "pass; pass").moment, 2)

    def test_all_ages_are_one_higher(self):
        told = told_of(WIDE, "borrow 0; pass; borrow 1; crash 1; pass; borrow 2; pass")
        self.assertEqual(told.using, ((0, 0, 3), (2, 2, 1)))
        self.assertEqual(told.kept, ((0, 3), (1, 2), (2, 1)))

    def test_up_to_the_grace_and_late(self):
        for grace, late in ((1, 0), (1, 2), (2, 1), (4, 0)):
            rule = Rule(1, 3, 9, grace, late)
            for cut in ("cut 0", "cut 1"):
                last = grace + late - 1
                self.can(rule, "; ".join(["borrow 0", cut, *["pass"] * last]), "pass")
                self.cannot(rule, "; ".join(["borrow 0", cut, *["pass"] * (last + 1)]), "pass")

    def test_up_to_the_beat_and_late(self):
        for beat, late in ((1, 0), (1, 2), (2, 1), (4, 0)):
            rule = Rule(1, 3, beat, 9, late)
            last = beat + late - 1
            self.can(rule, "; ".join(["borrow 0", "cut 1", *["pass"] * last]), "pass")
            self.cannot(rule, "; ".join(["borrow 0", "cut 1", *["pass"] * (last + 1)]), "pass")
            self.can(rule, "; ".join(["borrow 0", "cut 0", *["pass"] * (last + 1)]), "pass")
            self.cannot(rule, "; ".join(["borrow 0", "cut 0", *["pass"] * (last + 1), "join 0"]), "pass")

    def test_one_user_is_enough(self):
        rule = Rule(2, 9, 2, 9)
        self.cannot(rule, "borrow 0; borrow 1; pass; pass; word 0", "pass")
        self.cannot(rule, "borrow 0; borrow 1; pass; pass; word 1", "pass")
        self.can(rule, "borrow 0; borrow 1; pass; pass; word 1; word 0", "pass")

    def test_who_does_not_use_keeps_nobody_from_passing(self):
        rule = Rule(1, 9, 1, 1)
        self.cannot(rule, "borrow 0; pass", "pass")
        for event in ("crash 0", "stop 0", "back 0", "word 0"):
            self.can(rule, "borrow 0; pass; " + event, "pass")

    def test_a_seat_is_given_up_when_its_age_is_the_lapse(self):
        for lapse in (1, 2, 3, 7):
            rule = Rule(2, lapse, 9, 9)
            for passes in range(10):
                told = told_of(rule, "; ".join(["borrow 0", *["pass"] * passes]))
                kept = (0, passes) if passes < lapse else None
                self.assertEqual((told.using, told.kept), (((0, 0, passes),), (kept, None)))

    def test_the_ages_come_ahead_of_the_giving_up(self):
        # With a lapse of 1 a pass gives up what was borrowed in the very moment ahead of it.
        self.assertEqual(told_of(Rule(2, 1, 9, 9), "borrow 0; borrow 1; crash 1; pass").kept, (None, None))
        told = told_of(Rule(2, 2, 9, 9), "borrow 0; pass; borrow 1; pass")
        self.assertEqual(told.kept, (None, (1, 1)))

    def test_the_seat_of_who_crashed_is_given_up(self):
        told = told_of(Rule(1, 2, 1, 1), "borrow 0; crash 0; pass; pass; borrow 1")
        self.assertEqual((told.using, told.kept), (((1, 0, 0),), ((1, 0),)))


class FaultTest(PlayCase):
    def test_none(self):
        self.met(RULE, "")
        self.met(RULE, "borrow 0; borrow 1; pass; word 0; back 1; pass; word 0; borrow 2; cut 3; join 3; crash 0")

    def test_over_behind_each_event(self):
        rule = Rule(1, 2, 9, 9)
        text = "borrow 0; cut 0; pass; pass; borrow 1; cut 3; join 3; pass; crash 0; pass"
        over = [(at, fault) for at in (4, 5, 6, 7) for fault in ("over", "twice")]
        self.assertEqual(told_of(rule, text).met, (*over, (9, "taken")))

    def test_as_many_as_there_are_seats_are_not_over(self):
        self.met(Rule(3, 9, 9, 9), "borrow 0; borrow 1; borrow 2")
        self.met(Rule(3, 1, 9, 9), "borrow 0; borrow 1; cut 0; cut 1; pass; borrow 2", (5, "twice"))

    def test_taken(self):
        self.met(Rule(1, 2, 9, 9), "borrow 0; pass; pass; pass", (2, "taken"))
        self.met(Rule(1, 2, 9, 9), "borrow 0; pass; word 0; pass; pass", (4, "taken"))

    def test_not_taken(self):
        rule = Rule(2, 2, 9, 9)
        self.met(rule, "borrow 0; cut 0; pass; pass; pass")
        self.met(rule, "borrow 0; crash 0; pass; pass; pass")
        self.met(rule, "borrow 0; back 0; pass; pass; pass")
        self.met(rule, "borrow 0; pass")

    def test_taken_once_from_two(self):
        self.met(Rule(2, 1, 9, 9), "borrow 0; borrow 1; pass", (2, "taken"))
        self.met(Rule(2, 1, 9, 9), "borrow 0; borrow 1; cut 0; pass", (3, "taken"))
        self.met(Rule(2, 1, 9, 9), "borrow 0; borrow 1; cut 1; pass", (3, "taken"))
        self.met(Rule(2, 1, 9, 9), "borrow 0; borrow 1; cut 1; cut 0; pass")

    def test_twice(self):
        rule = Rule(2, 1, 9, 9)
        self.met(rule, "borrow 0; cut 0; pass; borrow 1; cut 5; crash 1; borrow 2", (3, "twice"), (4, "twice"))
        self.met(rule, "borrow 0; cut 0; pass; borrow 1; crash 0", (3, "twice"))
        self.met(rule, "borrow 0; cut 0; pass; crash 0; borrow 1")

    def test_two_seats_of_one_user_are_not_twice(self):
        # User 0 comes again to another seat, while its first one is kept for user 1.
        rule = Rule(2, 1, 9, 9)
        told = told_of(rule, "borrow 0; crash 0; pass; borrow 1; borrow 0")
        self.assertEqual((told.using, told.met), (((0, 1, 0), (1, 0, 0)), ()))

    def test_waits(self):
        self.met(Rule(1, 9, 9, 9), "borrow 0; crash 0; borrow 1; borrow 1", (2, "waits"), (3, "waits"))
        self.met(Rule(2, 9, 9, 9), "borrow 0; borrow 1; borrow 2; crash 1; borrow 2", (4, "waits"))
        self.met(Rule(1, 9, 9, 9), "borrow 0; borrow 1")

    def test_sent_away_while_as_many_use_as_there_are_seats(self):
        # User 0 uses, but its seat is kept for user 1, which crashed; user 2 uses the other seat.
        text = "borrow 0; cut 0; pass; borrow 1; borrow 2; crash 1; borrow 3"
        self.met(Rule(2, 1, 9, 9), text, (3, "twice"), (4, "over"), (4, "twice"))

    def test_several_at_one_event(self):
        rule = Rule(1, 1, 9, 9)
        text = "borrow 0; cut 0; pass; borrow 1; pass"
        expected = ((3, "over"), (3, "twice"), (4, "over"), (4, "taken"), (4, "twice"))
        self.met(rule, text, *expected)

    def test_each_pair_once(self):
        rule = Rule(2, 1, 9, 9)
        text = "borrow 0; borrow 1; cut 0; cut 1; pass; borrow 2; borrow 3"
        self.met(rule, text, (5, "over"), (5, "twice"), (6, "over"), (6, "twice"))

    def test_waits_beside_another_one(self):
        rule = Rule(3, 1, 9, 9)
        text = "borrow 0; cut 0; pass; borrow 1; borrow 2; borrow 3; crash 3; crash 2; borrow 4"
        twice = [(at, "twice") for at in (3, 4, 5, 6, 7, 8)]
        self.met(rule, text, *sorted([*twice, (5, "over"), (8, "waits")]))


class PlayedTest(PlayCase):
    def attributes(self, told):
        return (told.using, told.kept, told.cut, told.moment, told.met, told.peak)

    def test_the_empty_day(self):
        for seats in (1, 2, 4):
            told = play(Rule(seats, 1, 1, 1), Day())
            self.assertIs(type(told), Played)
            self.assertEqual(self.attributes(told), ((), (None,) * seats, (), 0, (), 0))

    def test_an_ordinary_day(self):
        told = told_of(RULE, "borrow 5; borrow 0; cut 5; pass; word 0; pass; back 0; pass; pass; cut 4; borrow 1; pass")
        self.assertEqual(told.using, ((1, 0, 1), (5, 0, 5)))
        self.assertEqual((told.kept, told.cut, told.moment), (((1, 1), None), (4, 5), 5))
        self.assertEqual((told.met, told.peak), (((10, "twice"), (11, "twice")), 2))

    def test_peak_stays(self):
        told = told_of(WIDE, "borrow 0; borrow 1; borrow 2; back 0; back 1; back 2; borrow 0")
        self.assertEqual((told.peak, len(told.using)), (3, 1))
        self.assertEqual(told_of(WIDE, "pass; cut 0").peak, 0)

    def test_sequences_are_tuples(self):
        told = told_of(RULE, "borrow 0; cut 0; pass; pass; pass; borrow 1; borrow 2")
        for sequence in (told.using, told.kept, told.cut, told.met):
            self.assertIs(type(sequence), tuple)
            for part in sequence:
                self.assertIn(type(part), (tuple, int))

    def test_arguments_by_name(self):
        self.assertEqual(play(day=Day.read("pass"), rule=RULE).moment, 1)
        self.assertIs(possible(event=PASS, day=Day(), rule=RULE), True)

    def test_the_same_call_again(self):
        day = Day.read("borrow 0; cut 0; pass; pass; pass; borrow 1")
        first = self.attributes(play(RULE, day))
        play(RULE, day + Day.read("borrow 2; crash 1"))
        possible(RULE, day, ("crash", 0))
        self.assertEqual(self.attributes(play(RULE, day)), first)
        self.assertEqual((str(day), str(RULE)), (
            "borrow 0; cut 0; pass; pass; pass; borrow 1", "seats 2 lapse 3 beat 2 grace 5 late 1",
        ))

    def test_it_is_not_iterable(self):
        told = told_of(RULE, "borrow 0")
        for work in (iter, list, tuple, lambda played: 0 in played, lambda played: [*played]):
            with self.assertRaises(TypeError):
                work(told)

    def test_days_that_are_not_possible(self):
        for text, at in (
            ("word 0", 0), ("borrow 0; borrow 0; borrow 0", 1), ("pass; pass; join 4; cut 4", 2),
            ("borrow 0; pass; pass; pass; pass; pass", 4),
        ):
            day = Day.read(text)
            calls = [lambda: play(RULE, day), lambda: possible(RULE, day, PASS)]
            # The day comes first, also if the event is none.
            calls += [lambda event=event: possible(RULE, day, event) for event in (None, "x", ["pass"], ("word", -1))]
            for call in calls:
                with self.assertRaises(InvalidDay) as caught:
                    call()
                self.assertEqual(caught.exception.at, at)

    def test_values_that_are_no_event(self):
        for text in ("", "borrow 0", "borrow 0; pass"):
            for value in NO_EVENTS:
                self.assertIs(possible(RULE, Day.read(text), value), False, repr(value))

    def test_great_users(self):
        told = play(RULE, Day([("borrow", 99), ("borrow", 10 ** 20), ("cut", 10 ** 20)]))
        self.assertEqual((told.using, told.cut), (((99, 0, 0), (10 ** 20, 1, 0)), (10 ** 20,)))
        self.assertIs(possible(RULE, Day(), ("borrow", 10 ** 20)), True)

    def test_rules_with_great_numbers(self):
        rule = Rule(4, 1000000, 1000000, 1000000, 1000000)
        told = play(rule, Day([("borrow", 0), *[PASS] * 2000]))
        self.assertEqual((told.using, told.kept[0], told.moment), (((0, 0, 2000),), (0, 2000), 2000))


class SlowHouseTest(PlayCase):
    """The plays against the slow house."""

    def compare(self, rule, users, events):
        state, met, peak = start(rule), [], 0
        for at, event in enumerate(events):
            state, faults = step(rule, state, event)
            met += [(at, fault) for fault in FAULTS if fault in faults]
            peak = max(peak, len(state[0]))
        day = Day(events)
        told = play(rule, day)
        self.assertEqual((told.using, told.kept, told.cut), state, str(day))
        self.assertEqual((told.moment, told.met, told.peak), (list(events).count(PASS), tuple(met), peak), str(day))
        for event in all_events(users + 1):
            self.assertIs(possible(rule, day, event), step(rule, state, event) is not None, f"{day}; {event}")

    def walk(self, rule, users, length, seed):
        """A possible day whose events are picked by a number that is mixed anew for each of them."""
        state, events = start(rule), []
        while len(events) < length:
            seed = (seed * 1103515245 + 12345) & 0x7fffffff
            choices = all_events(users) + [PASS] * users * 3 + [("borrow", user) for user in range(users)] * 2
            event = choices[(seed >> 8) % len(choices)]
            told = step(rule, state, event)
            if told is not None:
                state = told[0]
                events.append(event)
        return events

    def test_all_days_of_few_events(self):
        for rule in (Rule(1, 1, 1, 1), Rule(1, 2, 1, 2, 0), Rule(2, 1, 2, 1, 1)):
            days = [((), start(rule))]
            for _ in range(3):
                for events, _ in days:
                    self.compare(rule, 2, events)
                days = [
                    ((*events, event), step(rule, state, event)[0])
                    for events, state in days for event in all_events(2) if step(rule, state, event) is not None
                ]

    def test_days_of_60_events(self):
        met = set()
        for at, numbers in enumerate(itertools.product((1, 2, 3), (1, 2, 4), (1, 3), (1, 4), (0, 2))):
            rule = Rule(*numbers)
            events = self.walk(rule, 5, 60, at)
            self.compare(rule, 5, events)
            met |= {fault for _, fault in play(rule, Day(events)).met}
        self.assertEqual(sorted(met), list(FAULTS))

    def test_each_word_is_possible_somewhere(self):
        events = {event for seed in range(9) for event in self.walk(RULE, 3, 60, seed)}
        self.assertEqual({event[0] for event in events}, {"pass", *USER_WORDS})


if __name__ == "__main__":
    unittest.main()
