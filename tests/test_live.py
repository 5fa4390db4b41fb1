"""[18]: live houses, with what [1], [2] and [3] say of them."""

import random
import unittest

from lapseseats.days import Day
from lapseseats.deciding import day
from lapseseats.errors import Refused
from lapseseats.live import Live
from lapseseats.plays import Played, play, possible
from lapseseats.rules import Rule
from tests.helpers import NO_EVENTS, NO_SEQUENCES, PASS, all_events, start, step

RULE = Rule(2, 3, 2, 5, 1)
SHORT = Rule(1, 2, 9, 9)
OTHER = Rule(1, 1, 1, 3)
USED_UP = "borrow 0; cut 0; pass; pass; pass; borrow 1"


def told_by(played):
    return (played.using, played.kept, played.cut, played.moment, played.met, played.peak)


def shown(live):
    """All that can be seen of a live house, but for what can be taken back."""
    return (str(live.rule), str(live.day), told_by(live.played), len(live))


def events_of(text):
    return Day.read(text).events


def house_with(rule, text):
    """A live house with a deed for each event of a text."""
    live = Live(rule)
    for event in events_of(text):
        live.do(event)
    return live


class LiveCase(unittest.TestCase):
    def shows(self, live, rule, text, deeds):
        """What the house shows is what play tells of its day."""
        self.assertEqual(live.rule, rule)
        self.assertIs(type(live.day), Day)
        self.assertEqual(str(live.day), text)
        self.assertIs(type(live.played), Played)
        self.assertEqual(told_by(live.played), told_by(play(rule, Day.read(text))))
        self.assertEqual(len(live), deeds)

    def refused(self, live, at, work):
        """A work is refused, and nothing is changed by it."""
        ahead = shown(live)
        with self.assertRaises(Refused) as caught:
            work()
        self.assertEqual(caught.exception.at, at)
        self.assertIs(type(caught.exception.at), int)
        self.assertEqual(shown(live), ahead)

    def all_undone(self, live):
        """What is shown, behind each undo, until nothing can be taken back."""
        told = []
        while len(live):
            self.assertIs(live.undo(), True)
            told.append(shown(live))
        self.assertIs(live.undo(), False)
        return told


class BeginningTest(LiveCase):
    def test_at_first(self):
        for rule in (RULE, SHORT, Rule(4, 9, 9, 9, 9)):
            live = Live(rule)
            self.shows(live, rule, "", 0)
            self.assertIs(live.rule, rule)
            self.assertEqual(told_by(live.played), ((), (None,) * rule.seats, (), 0, (), 0))

    def test_attributes_are_set_on_the_object(self):
        self.assertLessEqual({"rule", "day", "played"}, set(vars(Live(RULE))))

    def test_by_name(self):
        live = Live(rule=RULE)
        self.assertEqual(live.do(event=("borrow", 0)), ())
        self.assertEqual(live.several(events=[PASS]), ((),))
        self.assertEqual(live.within(work=len), 2)
        self.assertIsNone(live.follow(rule=SHORT))
        self.shows(live, SHORT, "", 3)

    def test_two_side_by_side(self):
        one, other = Live(RULE), Live(RULE)
        one.do(("borrow", 0))
        self.shows(other, RULE, "", 0)
        other.follow(SHORT)
        self.shows(one, RULE, "borrow 0", 1)

    def test_it_is_not_iterable(self):
        for live in (Live(RULE), house_with(RULE, "borrow 0; pass")):
            for work in (iter, list, tuple, lambda box: PASS in box, lambda box: [*box], reversed):
                with self.assertRaises(TypeError):
                    work(live)
                with self.assertRaises(TypeError):
                    work(live.trial())


class DoTest(LiveCase):
    def test_it_returns_the_faults(self):
        live = Live(Rule(2, 3, 2, 5, 1))
        told = [live.do(event) for event in events_of(USED_UP + "; borrow 2; cut 5; crash 0")]
        self.assertEqual(told, [(), (), (), (), (), ("twice",), ("over", "twice"), ("over", "twice"), ()])
        self.assertEqual({type(one) for one in told}, {tuple})

    def test_each_fault(self):
        live = house_with(SHORT, "borrow 0; pass")
        self.assertEqual(live.do(PASS), ("taken",))
        self.assertEqual(live.do(("borrow", 1)), ("over", "twice"))
        self.assertEqual(live.do(PASS), ("over", "twice"))
        self.assertEqual(live.do(PASS), ("over", "taken", "twice"))
        live = house_with(SHORT, "borrow 0; crash 0")
        self.assertEqual((live.do(("borrow", 1)), live.do(("borrow", 0))), (("waits",), ()))

    def test_attributes_behind_each_event(self):
        live = Live(RULE)
        done = []
        for part in (USED_UP + "; borrow 2; crash 1; join 0; word 0; pass; stop 0; back 2").split("; "):
            if possible(RULE, live.day, Day.read(part)[0]):
                live.do(Day.read(part)[0])
                done.append(part)
            self.shows(live, RULE, "; ".join(done), len(done))
        self.assertGreater(len(done), 9)

    def test_events_that_are_not_possible(self):
        for text, event in (
            ("", ("word", 0)), ("", ("back", 0)), ("", ("crash", 0)), ("", ("stop", 0)), ("", ("join", 0)),
            ("borrow 0", ("borrow", 0)), ("cut 0", ("borrow", 0)), ("borrow 0; cut 0", ("word", 0)),
            ("borrow 0; cut 0", ("cut", 0)), ("borrow 0; pass", ("stop", 0)), ("borrow 0; pass; pass; pass", PASS),
        ):
            live = house_with(RULE, text)
            self.refused(live, len(Day.read(text)), lambda: live.do(event))

    def test_any_value_that_is_no_event(self):
        for text in ("", "borrow 0; pass"):
            live = house_with(RULE, text)
            for value in (*NO_EVENTS, live, [live], ("borrow", live), live.trial()):
                self.refused(live, len(live.day), lambda: live.do(value))

    def test_each_event_as_possible_tells(self):
        for text in ("", "borrow 0", "borrow 0; cut 0; pass", "borrow 0; crash 0; borrow 1; cut 1", USED_UP):
            for event in all_events(3):
                live = house_with(RULE, text)
                if possible(RULE, live.day, event):
                    live.do(event)
                    self.assertEqual(live.day[len(live.day) - 1], event)
                else:
                    self.refused(live, len(Day.read(text)), lambda: live.do(event))

    def test_the_number_is_that_of_the_day_so_far(self):
        live = house_with(RULE, "borrow 0; pass; pass")
        self.refused(live, 3, lambda: live.do(("borrow", 0)))
        live.undo()
        self.refused(live, 2, lambda: live.do(("borrow", 0)))
        live.several([PASS, ("word", 0), PASS])
        self.refused(live, 5, lambda: live.do(("borrow", 0)))
        live.follow(RULE)
        self.refused(live, 0, lambda: live.do(("word", 0)))
        live.undo()
        self.refused(live, 5, lambda: live.do(("borrow", 0)))

    def test_it_goes_on_behind_an_error(self):
        live = house_with(RULE, "borrow 0")
        self.refused(live, 1, lambda: live.do(("borrow", 0)))
        self.assertEqual(live.do(PASS), ())
        self.shows(live, RULE, "borrow 0; pass", 2)


class SeveralTest(LiveCase):
    def test_none_is_no_deed(self):
        for live in (Live(RULE), house_with(RULE, "borrow 0; pass")):
            ahead = shown(live)
            self.assertEqual((live.several([]), live.several(())), ((), ()))
            self.assertEqual(shown(live), ahead)

    def test_one(self):
        live = Live(RULE)
        self.assertEqual(live.several([("borrow", 0)]), ((),))
        self.shows(live, RULE, "borrow 0", 1)

    def test_many(self):
        for made in (list, tuple):
            live = Live(RULE)
            told = live.several(made(events_of(USED_UP + "; borrow 2")))
            self.assertEqual(told, ((), (), (), (), (), ("twice",), ("over", "twice")))
            self.assertEqual({type(told), *map(type, told)}, {tuple})
            self.shows(live, RULE, USED_UP + "; borrow 2", 1)

    def test_it_returns_what_do_returns(self):
        for rule, text in ((RULE, USED_UP), (SHORT, "borrow 0; pass; pass; borrow 1; pass; pass; crash 0; borrow 2")):
            one, other = Live(rule), Live(rule)
            self.assertEqual(one.several(events_of(text)), tuple(other.do(event) for event in events_of(text)))
            self.assertEqual((shown(one)[:3], len(one)), (shown(other)[:3], 1))

    def test_behind_a_day(self):
        live = house_with(SHORT, "borrow 0; pass")
        self.assertEqual(live.several([PASS, ("borrow", 1)]), (("taken",), ("over", "twice")))
        self.shows(live, SHORT, "borrow 0; pass; pass; borrow 1", 3)

    def test_one_that_is_not_possible(self):
        good = list(events_of("borrow 0; pass; word 0; borrow 1; pass"))
        for ahead in ("", "cut 4; pass; join 4"):
            for bad in (("word", 3), ("cut", 0, 0), None, "pass", ["pass"], ("borrow", True)):
                for at in (0, 2, 4):
                    live = house_with(RULE, ahead)
                    self.refused(live, at, lambda: live.several(good[:at] + [bad] + good[at + 1:]))
                live = house_with(RULE, ahead)
                self.refused(live, 5, lambda: live.several((*good, bad)))

    def test_the_first_of_several_that_are_not_possible(self):
        live = house_with(RULE, "borrow 0; pass; pass")
        self.refused(live, 1, lambda: live.several([("word", 0), ("word", 9), None]))
        self.refused(live, 1, lambda: live.several([("word", 0), None, ("word", 9)]))
        self.refused(live, 2, lambda: live.several([PASS, ("word", 0), ("join", 0)]))
        self.refused(live, 1, lambda: live.several([PASS, PASS, PASS]))

    def test_any_values_among_them(self):
        live = house_with(RULE, "borrow 0")
        for value in (*NO_EVENTS, live, [live], live.trial()):
            self.refused(live, 0, lambda: live.several([value]))
            self.refused(live, 1, lambda: live.several((PASS, value, PASS)))

    def test_no_sequence(self):
        live = house_with(RULE, "borrow 0; pass")
        for value in (*NO_SEQUENCES, live, live.day):
            self.refused(live, 0, lambda: live.several(value))

    def test_it_goes_on_behind_an_error(self):
        live = Live(RULE)
        self.refused(live, 1, lambda: live.several([("borrow", 0), ("borrow", 0)]))
        self.assertEqual(live.several([("borrow", 0), PASS]), ((), ()))
        self.shows(live, RULE, "borrow 0; pass", 1)

    def test_the_argument_is_not_kept(self):
        live = Live(RULE)
        events = [("borrow", 0), PASS]
        live.several(events)
        self.assertEqual(events, [("borrow", 0), PASS])
        events[0] = ("cut", 3)
        events.append(PASS)
        self.shows(live, RULE, "borrow 0; pass", 1)

    def test_what_the_package_returned(self):
        rule = Rule(4, 9, 9, 9, 9)
        found = day(rule, 6, "over")
        live = Live(rule)
        told = live.several(found.events)
        self.assertIn("over", told[-1])
        self.assertEqual(live.day, found)
        live.follow(rule)
        self.refused(live, 1, lambda: live.several([found[0], *found.events]))


class FollowTest(LiveCase):
    def test_another_rule_and_a_new_day(self):
        live = house_with(RULE, "borrow 0; cut 0; pass")
        self.assertIsNone(live.follow(SHORT))
        self.shows(live, SHORT, "", 4)
        self.assertIs(live.rule, SHORT)
        live.do(("borrow", 0))
        self.shows(live, SHORT, "borrow 0", 5)

    def test_an_equal_rule(self):
        for rule in (RULE, Rule.read(str(RULE))):
            live = house_with(RULE, "borrow 0")
            live.follow(rule)
            self.shows(live, RULE, "", 2)
            live = Live(RULE)
            live.follow(rule)
            self.shows(live, RULE, "", 1)
            self.assertIs(live.undo(), True)
            self.shows(live, RULE, "", 0)

    def test_several_times(self):
        live = Live(RULE)
        for at, rule in enumerate((SHORT, OTHER, RULE)):
            live.follow(rule)
            self.shows(live, rule, "", at + 1)


class UndoTest(LiveCase):
    def test_nothing_to_take_back(self):
        live = Live(RULE)
        self.assertIs(live.undo(), False)
        self.shows(live, RULE, "", 0)

    def test_back_to_the_beginning_and_once_more(self):
        live, seen = Live(RULE), []
        for event in events_of(USED_UP):
            seen.append(shown(live))
            live.do(event)
        self.assertEqual(self.all_undone(live), seen[::-1])
        self.shows(live, RULE, "", 0)
        self.assertIs(live.undo(), False)
        live.do(("borrow", 3))
        self.shows(live, RULE, "borrow 3", 1)

    def test_behind_several(self):
        live = house_with(RULE, "borrow 0; pass")
        live.several(events_of("word 0; borrow 1; pass"))
        self.assertIs(live.undo(), True)
        self.shows(live, RULE, "borrow 0; pass", 2)
        live.several([])
        self.assertIs(live.undo(), True)
        self.shows(live, RULE, "borrow 0", 1)

    def test_behind_follow(self):
        live = house_with(RULE, "borrow 0; pass")
        live.follow(SHORT)
        live.do(("borrow", 4))
        live.follow(OTHER)
        for rule, text, deeds in (
            (SHORT, "borrow 4", 4), (SHORT, "", 3), (RULE, "borrow 0; pass", 2), (RULE, "borrow 0", 1), (RULE, "", 0),
        ):
            self.assertIs(live.undo(), True)
            self.shows(live, rule, text, deeds)
        self.assertIs(live.undo(), False)

    def test_what_was_taken_back_does_not_count_on(self):
        live = house_with(RULE, USED_UP)
        self.assertEqual(live.played.met, ((5, "twice"),))
        live.undo()
        self.assertEqual((live.played.met, live.played.peak, live.played.kept), ((), 1, (None, None)))
        self.assertEqual(live.do(("cut", 1)), ())

    def test_behind_an_error(self):
        live = house_with(RULE, "borrow 0")
        self.refused(live, 1, lambda: live.do(None))
        self.refused(live, 1, lambda: live.several([PASS, None]))
        self.assertIs(live.undo(), True)
        self.shows(live, RULE, "", 0)

    def test_objects_that_were_shown_do_not_change(self):
        live = house_with(RULE, USED_UP)
        held, played = live.day, live.played
        told = told_by(played)
        live.undo()
        live.several([PASS, ("borrow", 3)])
        live.follow(SHORT)
        self.assertEqual((str(held), told_by(played)), (USED_UP, told))

    def test_40_deeds_and_60_events(self):
        live = Live(Rule(4, 9, 9, 9, 9))
        live.several(events_of("borrow 0; " + "; ".join(["pass; word 0"] * 10)))
        seen = []
        for event in [PASS, ("word", 0)] * 19 + [PASS]:
            seen.append(shown(live))
            live.do(event)
        self.assertEqual((len(live), len(live.day)), (40, 60))
        self.refused(live, 60, lambda: live.do(("borrow", 0)))
        self.assertEqual([live.undo() for _ in range(39)], [True] * 39)
        self.assertEqual(shown(live), seen[0])


class TrialTest(LiveCase):
    def test_its_value_is_the_live_house(self):
        live = house_with(RULE, "borrow 0")
        with live.trial() as held:
            self.assertIs(held, live)

    def test_each_one_is_new(self):
        live = Live(RULE)
        one, other = live.trial(), live.trial()
        self.assertIsNot(one, other)
        self.assertIsNot(one, live)

    def test_left_in_the_ordinary_way(self):
        live = house_with(RULE, "borrow 0; cut 0")
        ahead = shown(live)
        with live.trial():
            self.assertEqual(shown(live), ahead)
            live.do(PASS)
            live.several([PASS, PASS, ("borrow", 1)])
            self.shows(live, RULE, USED_UP, 4)
        self.assertEqual(shown(live), ahead)
        self.assertEqual(len(self.all_undone(live)), 2)

    def test_left_by_an_error_that_goes_on(self):
        live = house_with(RULE, "borrow 0")
        for made in (KeyError, ValueError, Refused, KeyboardInterrupt):
            error, ahead = made(7), shown(live)
            with self.assertRaises(made) as caught:
                with live.trial():
                    live.do(PASS)
                    live.follow(SHORT)
                    raise error
            self.assertIs(caught.exception, error)
            self.assertEqual(shown(live), ahead)

    def test_left_by_an_error_of_the_house(self):
        live = house_with(RULE, "borrow 0")
        ahead = shown(live)
        with self.assertRaises(Refused) as caught:
            with live.trial():
                live.do(PASS)
                live.do(("borrow", 0))
        self.assertEqual((caught.exception.at, shown(live)), (2, ahead))

    def test_an_error_that_is_caught_in_it(self):
        live = house_with(RULE, "borrow 0")
        ahead = shown(live)
        with live.trial():
            self.refused(live, 1, lambda: live.do(("borrow", 0)))
            live.do(PASS)
            self.shows(live, RULE, "borrow 0; pass", 2)
        self.assertEqual(shown(live), ahead)

    def test_left_by_return_and_by_break(self):
        live = house_with(RULE, "borrow 0")
        ahead = shown(live)

        def leave():
            with live.trial():
                return live.do(PASS)

        self.assertEqual((leave(), shown(live)), ((), ahead))
        for _ in range(2):
            with live.trial():
                live.do(PASS)
                break
        self.assertEqual(shown(live), ahead)

    def test_it_is_as_it_was_when_the_block_was_entered(self):
        live = Live(RULE)
        held = live.trial()
        live.do(("borrow", 0))
        with held:
            live.do(PASS)
        self.shows(live, RULE, "borrow 0", 1)

    def test_an_empty_block(self):
        live = house_with(RULE, "borrow 0")
        ahead = shown(live)
        with live.trial():
            pass
        self.assertEqual(shown(live), ahead)

    def test_a_trial_that_is_not_entered(self):
        live = house_with(RULE, "borrow 0")
        live.trial()
        live.do(PASS)
        self.shows(live, RULE, "borrow 0; pass", 2)

    def test_a_block_in_a_block(self):
        live = house_with(RULE, "borrow 0")
        with live.trial():
            live.do(PASS)
            with live.trial():
                live.several([PASS, ("word", 0)])
                with live.trial() as held:
                    held.follow(SHORT)
                    self.shows(live, SHORT, "", 4)
                self.shows(live, RULE, "borrow 0; pass; pass; word 0", 3)
            self.shows(live, RULE, "borrow 0; pass", 2)
            with live.trial():
                live.undo()
            self.shows(live, RULE, "borrow 0; pass", 2)
        self.shows(live, RULE, "borrow 0", 1)

    def test_blocks_in_a_block_that_are_left_by_an_error(self):
        live = house_with(RULE, "borrow 0")
        with self.assertRaises(KeyError):
            with live.trial():
                live.do(PASS)
                with live.trial():
                    live.do(PASS)
                    raise KeyError(1)
        self.shows(live, RULE, "borrow 0", 1)

    def test_undo_in_it(self):
        live = house_with(RULE, "borrow 0; pass; word 0")
        seen = shown(live)
        with live.trial():
            live.do(PASS)
            self.assertIs(live.undo(), True)
            self.assertEqual(shown(live), seen)
        self.assertEqual(shown(live), seen)

    def test_undo_in_it_more_often_than_there_were_deeds_in_it(self):
        live = house_with(RULE, "borrow 0; pass; word 0")
        seen = shown(live)
        with live.trial():
            live.do(PASS)
            self.assertEqual([live.undo() for _ in range(3)], [True] * 3)
            self.shows(live, RULE, "borrow 0", 1)
            live.do(("cut", 0))
            self.shows(live, RULE, "borrow 0; cut 0", 2)
        self.assertEqual(shown(live), seen)
        with live.trial():
            self.all_undone(live)
            self.shows(live, RULE, "", 0)
        self.assertEqual(shown(live), seen)
        expected = ["borrow 0; pass", "borrow 0", ""]
        self.assertEqual([one[1] for one in self.all_undone(live)], expected)

    def test_follow_in_it(self):
        live = house_with(RULE, "borrow 0")
        live.follow(SHORT)
        live.do(("cut", 2))
        seen = shown(live)
        with live.trial():
            live.follow(OTHER)
            live.do(("borrow", 0))
            self.shows(live, OTHER, "borrow 0", 5)
        self.assertEqual(shown(live), seen)
        with live.trial():
            self.assertEqual([live.undo() for _ in range(3)], [True] * 3)
            live.follow(OTHER)
        self.assertEqual(shown(live), seen)
        self.assertEqual([one[:2] for one in self.all_undone(live)], [
            (str(SHORT), ""), (str(RULE), "borrow 0"), (str(RULE), ""),
        ])

    def test_it_is_entered_once(self):
        live = house_with(RULE, "borrow 0")
        held = live.trial()
        with held:
            live.do(PASS)
        live.do(PASS)
        ahead = shown(live)
        with self.assertRaises(RuntimeError):
            with held:
                self.fail("it was entered twice")
        self.assertEqual(shown(live), ahead)

    def test_it_is_not_entered_in_its_own_block(self):
        live = house_with(RULE, "borrow 0")
        ahead, held = shown(live), live.trial()
        with self.assertRaises(RuntimeError):
            with held:
                live.do(PASS)
                with held:
                    self.fail("it was entered twice")
        self.assertEqual(shown(live), ahead)

    def test_two_houses(self):
        one, other = house_with(RULE, "borrow 0"), house_with(SHORT, "cut 3")
        with one.trial(), other.trial():
            one.do(PASS)
            other.several([PASS, PASS])
        self.shows(one, RULE, "borrow 0", 1)
        self.shows(other, SHORT, "cut 3", 1)


class WithinTest(LiveCase):
    def test_it_returns_what_the_work_returns(self):
        live = house_with(RULE, "borrow 0")
        ahead = shown(live)
        for value in (None, 3, (), [1], "x", False):
            self.assertIs(live.within(lambda house: value), value)
        self.assertIs(live.within(lambda house: house), live)
        self.assertEqual(live.within(lambda house: house.several([PASS, ("word", 0)])), ((), ()))
        self.assertEqual(shown(live), ahead)

    def test_the_work_is_called_once_with_the_house(self):
        live = Live(RULE)
        seen = []
        live.within(lambda *passed: seen.append(passed))
        self.assertEqual(len(seen), 1)
        self.assertEqual(len(seen[0]), 1)
        self.assertIs(seen[0][0], live)

    def test_what_the_work_does_is_undone(self):
        live = house_with(RULE, "borrow 0; cut 0")

        def work(house):
            house.several([PASS, PASS, PASS, ("borrow", 1)])
            self.shows(house, RULE, USED_UP, 3)
            return house.played.met

        self.assertEqual(live.within(work), ((5, "twice"),))
        self.shows(live, RULE, "borrow 0; cut 0", 2)

    def test_a_work_that_raises(self):
        live = house_with(RULE, "borrow 0")
        ahead, error = shown(live), KeyError("x")

        def work(house):
            house.undo()
            house.follow(SHORT)
            raise error

        with self.assertRaises(KeyError) as caught:
            live.within(work)
        self.assertIs(caught.exception, error)
        self.assertEqual(shown(live), ahead)
        with self.assertRaises(Refused) as caught:
            live.within(lambda house: house.do(("borrow", 0)))
        self.assertEqual((caught.exception.at, shown(live)), (1, ahead))

    def test_in_one_another_and_in_a_trial(self):
        live = house_with(RULE, "borrow 0")

        def inner(house):
            house.do(PASS)
            return len(house)

        def outer(house):
            house.do(PASS)
            return house.within(inner), len(house)

        with live.trial():
            live.do(("cut", 1))
            self.assertEqual(live.within(outer), (4, 3))
            self.assertEqual(len(live), 2)
        self.assertEqual((live.within(outer), len(live)), ((3, 2), 1))


class WalkTest(LiveCase):
    """Many deeds, mixed by a number, against the slow house, which starts anew for each of them."""

    def replayed(self, rule, events):
        state, told = start(rule), []
        for event in events:
            state, met = step(rule, state, event)
            told.append(tuple(sorted(met)))
        return state, told

    def some_events(self, dice, many):
        return [dice.choice([*all_events(3), *[PASS] * 6, ("borrow", 0), ("borrow", 1)]) for _ in range(many)]

    def first_refused(self, rule, events, more):
        state = self.replayed(rule, events)[0]
        for at, event in enumerate(more):
            told = step(rule, state, event)
            if told is None:
                return at
            state = told[0]
        return None

    def deed(self, dice, live, stack):
        rule, events = stack[-1]
        word = dice.choice(("do", "do", "do", "do", "several", "several", "follow", "undo"))
        if word == "undo":
            self.assertIs(live.undo(), len(stack) > 1)
            del stack[max(1, len(stack) - 1):]
        elif word == "follow":
            rule = dice.choice((rule, RULE, SHORT, OTHER))
            self.assertIsNone(live.follow(rule))
            stack.append((rule, ()))
        else:
            more = self.some_events(dice, 1 if word == "do" else dice.randrange(4))
            at = self.first_refused(rule, events, more)
            call = (lambda: (live.do(more[0]),)) if word == "do" else (lambda: live.several(more))
            if at is not None:
                self.refused(live, len(events) if word == "do" else at, call)
                return
            told = tuple(self.replayed(rule, (*events, *more))[1][len(events):])
            self.assertEqual(call(), told)
            if more:
                stack.append((rule, (*events, *more)))

    def compare(self, live, stack):
        rule, events = stack[-1]
        state, told = self.replayed(rule, events)
        self.assertEqual((live.rule, live.day.events, len(live)), (rule, events, len(stack) - 1))
        self.assertEqual((live.played.using, live.played.kept, live.played.cut), state)
        met = tuple((at, fault) for at, faults in enumerate(told) for fault in faults)
        self.assertEqual((live.played.met, live.played.moment), (met, events.count(PASS)))
        self.assertEqual(told_by(live.played), told_by(play(rule, live.day)))

    def walk(self, dice, live, stack, deeds, depth):
        for _ in range(deeds):
            if depth and dice.randrange(8) == 0:
                ahead = list(stack)
                with live.trial():
                    self.walk(dice, live, stack, 6, depth - 1)
                stack[:] = ahead
            else:
                self.deed(dice, live, stack)
            self.compare(live, stack)

    def test_walks(self):
        for seed in range(40):
            self.walk(random.Random(seed), Live(RULE), [(RULE, ())], 30, 2)


if __name__ == "__main__":
    unittest.main()
