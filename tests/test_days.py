"""[6]: the days, with what [1], [2] and [3] say of them."""

import unittest

from lapseseats.days import Day
from lapseseats.errors import InvalidDay, InvalidText
from lapseseats.rules import Rule
from tests.helpers import NO_INTEGERS, NO_SEQUENCES, NO_STRINGS

WORDS = ("borrow", "word", "back", "crash", "stop", "cut", "join")
EVENTS = (("borrow", 0), ("cut", 0), ("pass",), ("pass",), ("borrow", 12), ("join", 0))
TEXT = "borrow 0; cut 0; pass; pass; borrow 12; join 0"


class DayCase(unittest.TestCase):
    def wrong_day(self, at, events):
        with self.assertRaises(InvalidDay) as caught:
            Day(events)
        self.assertEqual(caught.exception.at, at, repr(events))

    def wrong_text(self, at, text):
        with self.assertRaises(InvalidText) as caught:
            Day.read(text)
        self.assertEqual(caught.exception.at, at, repr(text))


class MakingTest(DayCase):
    def test_events(self):
        for events in (EVENTS, list(EVENTS)):
            self.assertEqual(Day(events).events, EVENTS)
            self.assertIs(type(Day(events).events), tuple)
        self.assertEqual(Day(events=EVENTS).events, EVENTS)

    def test_no_events(self):
        for day in (Day(), Day(()), Day([]), Day(events=[])):
            self.assertEqual(day.events, ())

    def test_each_word(self):
        for word in WORDS:
            for user in (0, 1, 5, 99, 100, 10 ** 20):
                self.assertEqual(Day([(word, user)]).events, ((word, user),))
        self.assertEqual(Day([("pass",)]).events, (("pass",),))

    def test_a_list_that_is_changed_later(self):
        events = list(EVENTS)
        day = Day(events)
        events[0] = ("pass",)
        events.append("x")
        self.assertEqual(day.events, EVENTS)
        events.clear()
        self.assertEqual((len(day), day[0]), (6, ("borrow", 0)))

    def test_the_argument_is_not_changed(self):
        events = list(EVENTS)
        Day(events)
        self.assertEqual(events, list(EVENTS))

    def test_values_that_are_no_sequence(self):
        for value in NO_SEQUENCES:
            self.wrong_day(0, value)

    def test_users_that_are_none(self):
        for word in WORDS:
            for user in (-1, -10 ** 20, *NO_INTEGERS):
                self.wrong_day(1, [("pass",), (word, user)])

    def test_words_that_are_none(self):
        for word in ("", "Borrow", "borrow ", "passes", "pass", "say", "b", *NO_STRINGS):
            self.wrong_day(0, [(word, 0)])
        for word in ("", "Pass", "pass ", "passes", *WORDS, *NO_STRINGS):
            self.wrong_day(0, [(word,)])

    def test_tuples_of_another_length(self):
        for thing in ((), ("borrow",), ("borrow", 0, 0), ("pass", 0), ("pass", "pass"), ("word", 0, None)):
            self.wrong_day(0, (thing,))

    def test_things_that_are_no_tuple(self):
        things = (["pass"], ["borrow", 0], "pass", "borrow 0", None, True, 0, [], Rule(1, 1, 1, 1), Day())
        for thing in things:
            self.wrong_day(2, [("pass",), ("borrow", 0), thing])
            self.wrong_day(0, [thing])
        self.wrong_day(0, ("borrow", 0))
        self.wrong_day(0, ("pass",))
        self.wrong_day(0, [EVENTS])

    def test_the_first_thing_counts(self):
        self.wrong_day(1, [("pass",), None, ("pass",), ("borrow", -1)])
        self.wrong_day(3, [*EVENTS[:3], ("borrow", True), "x"])
        self.wrong_day(6, (*EVENTS, ()))

    def test_long_days(self):
        self.assertEqual(len(Day([("pass",)] * 300)), 300)


class SequenceTest(DayCase):
    def test_len(self):
        self.assertEqual((len(Day()), len(Day(EVENTS)), len(Day([("pass",)]))), (0, 6, 1))

    def test_index(self):
        day = Day(EVENTS)
        for at, event in enumerate(EVENTS):
            self.assertEqual(day[at], event)

    def test_integers_that_are_no_index(self):
        for events in ((), EVENTS[:1], EVENTS):
            day = Day(events)
            many = len(events)
            for at in (-1, -many, -many - 1, many, many + 1, 2 ** 63, 10 ** 30, -2 ** 63, -10 ** 30):
                if 0 <= at < many:
                    continue
                with self.assertRaises(InvalidDay) as caught:
                    day[at]
                self.assertEqual(caught.exception.at, at)

    def test_sum(self):
        p, q = Day(EVENTS[:2]), Day(EVENTS[2:])
        self.assertIs(type(p + q), Day)
        self.assertEqual((p + q).events, EVENTS)
        self.assertEqual((q + p).events, EVENTS[2:] + EVENTS[:2])
        self.assertEqual((p.events, q.events), (EVENTS[:2], EVENTS[2:]))
        self.assertEqual((p + p).events, EVENTS[:2] * 2)

    def test_sum_with_an_empty_day(self):
        day = Day(EVENTS)
        self.assertEqual((Day() + day).events, EVENTS)
        self.assertEqual((day + Day()).events, EVENTS)
        self.assertEqual((Day() + Day()).events, ())

    def test_sum_in_place(self):
        elder = day = Day(EVENTS[:2])
        day += Day(EVENTS[2:])
        self.assertEqual(day.events, EVENTS)
        self.assertEqual(elder.events, EVENTS[:2])

    def test_no_sum_with_other_things(self):
        for other in ([("pass",)], (("pass",),), "pass", None, 1, Rule(1, 1, 1, 1)):
            with self.assertRaises(TypeError):
                Day() + other
            with self.assertRaises(TypeError):
                other + Day()

    def test_days_are_not_iterable(self):
        works = (
            iter,
            list,
            tuple,
            enumerate,
            lambda day: ("pass",) in day,
            lambda day: [*day],
            lambda day: [event for event in day],
            lambda day: [].extend(day),
        )
        for day in (Day(), Day(EVENTS)):
            for work in works:
                with self.assertRaises(TypeError):
                    work(day)


class TextTest(DayCase):
    def test_str(self):
        self.assertEqual(str(Day(EVENTS)), TEXT)
        self.assertEqual(str(Day()), "")
        self.assertEqual(str(Day([("pass",)])), "pass")
        for word in WORDS:
            self.assertEqual(str(Day([(word, 10)])), word + " 10")

    def test_read_is_the_day_with_the_text(self):
        for text in ("", "pass", TEXT, *[word + " 10; pass" for word in WORDS]):
            self.assertIs(type(Day.read(text)), Day)
            self.assertEqual(str(Day.read(text)), text)
        self.assertEqual(Day.read(TEXT).events, EVENTS)
        self.assertEqual(Day.read("").events, ())
        self.assertEqual(Day.read(text="borrow 5").events, (("borrow", 5),))

    def test_users(self):
        for user in (0, 1, 9, 10, 60, 99):
            self.assertEqual(Day.read(f"stop {user}").events, (("stop", user),))
        for user in ("00", "01", "09", "100", "000", "012", "", "-1", "+1", "1.0", "x", "1_0", "0x1", "1\n", "\u00b2"):
            self.wrong_text(1, f"pass; stop {user}; pass")

    def test_parts_that_are_no_event(self):
        parts = (
            "", " ", "Pass", "pass ", " pass", "pass 0", "borrow", "borrow ", " borrow 0", "borrow 0 ", "borrow  0",
            "borrow 0 0", "say 0", "0 borrow", "0", ";", "borrow 0;", "borrow\n0", "pass\n", "pass;pass", "pass,pass",
        )
        for part in parts:
            if part:
                self.wrong_text(0, part)
            self.wrong_text(2, "pass; cut 1; " + part)
            self.wrong_text(1, "pass; " + part + "; pass; x")

    def test_empty_parts(self):
        self.wrong_text(0, "; ")
        self.wrong_text(0, "; pass")
        self.wrong_text(1, "pass; ")
        self.wrong_text(1, "pass; ; pass")
        self.wrong_text(0, " ")
        self.wrong_text(0, "\n")

    def test_the_first_part_counts(self):
        self.wrong_text(1, "pass; x; pass; y")
        self.wrong_text(0, "borrow 01; ; x")

    def test_values_that_are_no_string(self):
        for value in NO_STRINGS:
            self.wrong_text(0, value)


class EqualityTest(DayCase):
    def test_equal_days(self):
        self.assertTrue(Day(EVENTS) == Day(list(EVENTS)))
        self.assertFalse(Day(EVENTS) != Day.read(TEXT))
        self.assertTrue(Day() == Day.read(""))
        self.assertTrue(Day(EVENTS[:3]) + Day(EVENTS[3:]) == Day(EVENTS))

    def test_other_days(self):
        others = (
            Day(), Day(EVENTS[:-1]), Day(EVENTS[::-1]), Day([*EVENTS, ("pass",)]), Day([("borrow", 1), *EVENTS[1:]]),
            Day([("word", 0), *EVENTS[1:]]),
        )
        for other in others:
            self.assertFalse(Day(EVENTS) == other)
            self.assertTrue(Day(EVENTS) != other)

    def test_other_things(self):
        for day in (Day(), Day(EVENTS)):
            for other in (str(day), day.events, list(day.events), None, False, 0, Rule(1, 1, 1, 1), InvalidDay(0)):
                self.assertIs(day == other, False)
                self.assertIs(other == day, False)
                self.assertIs(day != other, True)


if __name__ == "__main__":
    unittest.main()
