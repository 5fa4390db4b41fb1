"""[1], [2], [3] over the whole program: what holds of all functions and objects together."""

import random
import time
import unittest

from lapseseats.comparing import beats, best_of, no_more
from lapseseats.days import Day
from lapseseats.deciding import day, faults, happens, least_events, longest_kept, most
from lapseseats.desk import Desk
from lapseseats.errors import InvalidCommand, InvalidDay, InvalidFault, InvalidLog, InvalidRule, InvalidText, Refused
from lapseseats.forms import (
    choices, fine_beats, least_words, longest_alone, per_seat, safe_grace, safe_lapse,
)
from lapseseats.live import Live
from lapseseats.logs import calm, can_use, first_misfit, fits, surely_use
from lapseseats.plays import play, possible
from lapseseats.rules import Rule
from lapseseats.splits import best_splits, unserved
from tests.helpers import FAULTS, NO_EVENTS, PASS, all_events

RULE = Rule(2, 3, 2, 5, 1)
MILLION = 1000000
GREAT = Rule(4, MILLION, MILLION, MILLION, MILLION)
WIDE = Rule(4, 9, 9, 9, 9)
BOOK = [(0, "borrow", 0), (1, "borrow", 1), (2, "word", 0), (5, "borrow", 2), (6, "back", 2)]
WISHES = [(3, 1), (0, 4)]
SOME = Day.read("borrow 0; cut 0; pass; pass; pass; borrow 1; borrow 2")

# A call of each function: its results are compared, and its arguments are not changed by it.
CALLS = (
    (most, (RULE, 9)),
    (happens, (RULE, 2, "over")),
    (faults, (RULE, 2)),
    (least_events, (RULE, 3, "over")),
    (day, (RULE, 3, "over")),
    (longest_kept, (RULE,)),
    (per_seat, (RULE,)),
    (safe_lapse, (RULE,)),
    (safe_grace, (RULE,)),
    (fine_beats, (RULE, 6)),
    (choices, (RULE, 7)),
    (least_words, (RULE, 10)),
    (longest_alone, (RULE,)),
    (fits, (RULE, BOOK)),
    (first_misfit, (RULE, BOOK)),
    (can_use, (RULE, BOOK, 5)),
    (surely_use, (RULE, BOOK, 5)),
    (calm, (RULE, BOOK, 5)),
    (possible, (RULE, SOME, ("stop", 0))),
    (unserved, (4, 1, WISHES)),
    (best_splits, (4, WISHES)),
    (no_more, (RULE, GREAT)),
    (beats, (RULE, GREAT)),
    (best_of, ([RULE, GREAT, RULE.but("grace", 1)],)),
)

EITHER = (
    lambda: possible(RULE, SOME, PASS),
    lambda: possible(RULE, SOME, "pass"),
    lambda: happens(RULE, 9, "over"),
    lambda: happens(RULE, 1, "waits"),
    lambda: fits(RULE, BOOK),
    lambda: fits(RULE, [(0, "word", 0)]),
    lambda: calm(RULE, BOOK, 5),
    lambda: calm(RULE, [], 0),
    lambda: no_more(RULE, GREAT),
    lambda: no_more(GREAT.but("lapse", 1), RULE),
    lambda: beats(RULE, GREAT),
    lambda: beats(RULE, RULE),
    lambda: Live(RULE).undo(),
    lambda: used().undo(),
    lambda: RULE == RULE.but("late", 1),
    lambda: RULE != GREAT,
    lambda: SOME == Day(SOME.events),
    lambda: SOME == RULE,
)


def used():
    live = Live(RULE)
    live.several(SOME.events)
    return live


def plain(value):
    """A result in a form that can be compared."""
    return value.events if isinstance(value, Day) else value


class AgainTest(unittest.TestCase):
    def test_the_same_calls_in_many_orders(self):
        first = [plain(call(*passed)) for call, passed in CALLS]
        live, desk = used(), Desk()
        for seed in range(20):
            order = list(range(len(CALLS)))
            dice = random.Random(seed)
            dice.shuffle(order)
            for at in order:
                call, passed = CALLS[at]
                self.assertEqual(plain(call(*passed)), first[at], call)
                live.do(("cut", seed * len(order) + at + 9))
                live.follow(dice.choice((RULE, WIDE)))
                desk.say(f"cut {at}")
            desk.say("rule 1 1 1 1 0")

    def test_arguments_are_not_changed(self):
        ahead = (list(BOOK), list(WISHES), str(RULE), str(GREAT), str(SOME))
        for call, passed in CALLS:
            call(*passed)
        self.assertEqual((BOOK, WISHES, str(RULE), str(GREAT), str(SOME)), ahead)

    def test_a_live_house_does_not_change_what_it_was_passed(self):
        rule, events = Rule.read(str(RULE)), list(SOME.events)
        live = Live(rule)
        live.several(events)
        live.follow(WIDE)
        live.do(("cut", 0))
        self.assertEqual((str(rule), str(WIDE), tuple(events)), (str(RULE), "seats 4 lapse 9 beat 9 grace 9 late 9", SOME.events))


class KindsTest(unittest.TestCase):
    def test_whether_something_is_so(self):
        told = [call() for call in EITHER]
        self.assertEqual({type(one) for one in told}, {bool})
        self.assertEqual(set(told), {True, False})

    def test_nothing_is_iterable(self):
        for value in (
            RULE, SOME, play(RULE, SOME), Live(RULE), used(), used().trial(), Desk(), InvalidRule([1]), InvalidDay([1]),
            InvalidText([1]), InvalidFault(), InvalidLog([1]), InvalidCommand(), Refused([1]),
        ):
            for work in (iter, list, tuple, lambda one: 0 in one, lambda one: [*one], lambda one: dict([one])):
                with self.assertRaises(TypeError):
                    work(value)

    def test_objects_are_equal_to_no_object_of_another_class(self):
        for one in (RULE, SOME):
            for other in (Live(RULE), used(), Desk(), play(RULE, SOME), used().trial(), str(one), None, 0):
                self.assertIs(one == other, False)
                self.assertIs(other == one, False)
                self.assertIs(one != other, True)


class TogetherTest(unittest.TestCase):
    """What one part tells is what another one does."""

    def test_a_live_house_shows_what_play_tells(self):
        for rule in (RULE, WIDE, Rule(1, 1, 1, 1), Rule(1, 2, 9, 9)):
            for seed in range(5):
                dice, live = random.Random(seed), Live(rule)
                met = []
                while len(live.day) < 60:
                    event = dice.choice([*all_events(4), *[PASS] * 9, ("borrow", 0), ("borrow", 1), ("borrow", 2)])
                    can = possible(rule, live.day, event)
                    if not can:
                        with self.assertRaises(Refused):
                            live.do(event)
                        continue
                    told = live.do(event)
                    met += [(len(live.day) - 1, fault) for fault in told]
                    told = play(rule, live.day)
                    self.assertEqual(vars(live.played), vars(told))
                    self.assertEqual(told.met, tuple(met))

    def test_shortest_days_are_led_live(self):
        for rule in (RULE, WIDE, Rule(1, 2, 9, 9), Rule(3, 1, 1, 1)):
            for fault in FAULTS:
                found = day(rule, 6, fault)
                if found is None:
                    continue
                live = Live(rule)
                told = live.several(found.events)
                self.assertEqual([fault in one for one in told], [False] * (len(found) - 1) + [True])
                self.assertEqual(len(found), least_events(rule, 6, fault))

    def test_and_at_a_desk(self):
        for rule in (RULE, WIDE, Rule(1, 2, 9, 9), Rule(3, 1, 1, 1)):
            for fault in FAULTS:
                found = day(rule, 6, fault)
                if found is None:
                    continue
                desk = Desk()
                desk.say(f"rule {rule.seats} {rule.lapse} {rule.beat} {rule.grace} {rule.late}")
                told = [desk.say(part) for part in str(found).split("; ")]
                self.assertEqual([fault in one.split(" ") for one in told], [False] * (len(found) - 1) + [True])
                self.assertEqual(desk.say("using"), " ".join(str(one[0]) for one in play(rule, found).using) or "none")

    def test_what_is_refused_is_not_possible(self):
        for value in NO_EVENTS:
            self.assertIs(possible(RULE, SOME, value), False)
            with self.assertRaises(Refused) as caught:
                used().do(value)
            self.assertEqual(caught.exception.at, len(SOME))

    def test_rules_are_beaten_as_choices_tell(self):
        # Of the lapses that choices leaves, with seats never taken, the house keeps seats longer for fewer per seat.
        rules = [RULE.but("lapse", lapse).but("beat", 1).but("late", 0) for lapse in range(2, 10)]
        left = [lapse for lapse, _ in choices(rules[0], 9) if lapse > 1]
        self.assertEqual([rules[at].lapse for at in best_of(rules)], left)


class LimitsTest(unittest.TestCase):
    """What the limits allow is answered, and soon."""

    def setUp(self):
        self.begun = time.perf_counter()

    def tearDown(self):
        self.assertLess(time.perf_counter() - self.begun, 5)

    def test_great_rules(self):
        for rule in (GREAT, GREAT.but("lapse", 1), GREAT.but("beat", 1), GREAT.but("grace", 1), GREAT.but("late", 0)):
            most(rule, 60)
            longest_kept(rule)
            for users in (1, 5, 60):
                for fault in faults(rule, users):
                    self.assertGreater(least_events(rule, users, fault), 0)
            for call in (fine_beats, choices, least_words):
                call(rule, 60)
            for call in (per_seat, safe_lapse, safe_grace, longest_alone):
                call(rule)
        rules = [GREAT.but("lapse", MILLION - at).but("grace", MILLION - 7 * at % 60) for at in range(200)]
        self.assertGreater(len(best_of(rules)), 0)
        self.assertIs(no_more(rules[0], rules[1]) or no_more(rules[1], rules[0]), True)

    def test_great_logs(self):
        words = ("borrow", "word", "back", "borrow", "word")
        book = [(at * 50000, words[at % 5], at // 5) for at in range(19)]
        book.append((MILLION, "word", 3))
        self.assertEqual(len(book), 20)
        for rule, expected in ((GREAT, True), (GREAT.but("seats", 2).but("lapse", 250000), False)):
            self.assertIs(fits(rule, book), True)
            self.assertIsNone(first_misfit(rule, book))
            self.assertEqual(can_use(rule, book, MILLION), (0, 1, 2, 3))
            self.assertEqual((surely_use(rule, book, 0), calm(rule, book, MILLION)), ((0,), expected))

    def test_days_of_60_events(self):
        events = [(word, user) for user in range(4) for word in ("borrow", "word", "cut", "join")] + [PASS] * 8
        events += [(word, user) for user in range(4) for word in ("word", "cut", "join")]
        events += [(word, user) for user in range(4) for word in ("cut", "join")] + [PASS] * 8
        events += [("crash", 0), ("cut", 5), ("join", 5), ("borrow", 4), ("cut", 4), ("word", 3), ("join", 4), PASS]
        self.assertEqual(len(events), 60)
        live = Live(WIDE)
        for at in range(0, 60, 2):
            live.several(events[at:at + 2])
        self.assertEqual((len(live), len(live.day)), (30, 60))
        self.assertEqual(live.played.met, ((55, "waits"), (59, "taken")))
        self.assertEqual(vars(live.played), vars(play(WIDE, Day(events))))

    def test_the_longest_shortest_days(self):
        for fault in FAULTS:
            found = day(WIDE.but("seats", 1), 6, fault)
            self.assertEqual(fault in dict([one[::-1] for one in play(WIDE.but("seats", 1), found).met]), True)

    def test_wishes(self):
        for pairs in ([(9, 9)] * 6, [(9, 0), (0, 9), (5, 5), (9, 9), (1, 8), (7, 2)]):
            for here in range(10):
                unserved(9, here, pairs)
            self.assertGreater(len(best_splits(9, pairs)), 0)

    def test_what_was_returned_is_passed_on(self):
        rule = Rule(4, 1, 1, MILLION, MILLION)
        many = most(rule, 60 * MILLION)
        self.assertEqual(many, 4 * (2 * MILLION + 1))
        self.assertEqual(most(rule, many), many)
        self.assertEqual(faults(rule, many), FAULTS)
        self.assertEqual(len(day(rule, many, "over")), least_events(rule, many, "over"))
        self.assertEqual(len(choices(rule, safe_lapse(rule))), 2828)
        self.assertEqual(fine_beats(rule, safe_lapse(rule)), ())
        self.assertEqual(least_words(rule.but("lapse", 2), longest_alone(rule)), 2 * MILLION - 1)
        self.assertEqual(longest_kept(rule.but("lapse", safe_lapse(rule))), 2 * MILLION + 1)
        found = day(Rule(1, 999, 9, 999), 2, "over")
        live = Live(Rule(1, 999, 9, 999))
        live.several(found.events)
        self.assertEqual((live.day, live.played.peak), (found, 2))


if __name__ == "__main__":
    unittest.main()
