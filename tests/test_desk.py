"""[19], [20]: desks, with what [1], [2] and [3] say of them."""

import random
import unittest

from lapseseats.days import Day
from lapseseats.deciding import faults, most
from lapseseats.desk import Desk
from lapseseats.errors import InvalidCommand, InvalidRule, Refused
from lapseseats.forms import safe_lapse
from lapseseats.live import Live
from lapseseats.rules import Rule
from tests.helpers import NO_STRINGS, USER_WORDS, all_events

WRONG_FORMS = (
    # Empty words.
    "", " ", "  ", " pass", "pass ", "borrow  0", " borrow 0", "borrow 0 ", "borrow ", "rule 1 1 1 1  0", "rule  1 1 1 1 0",
    "faults ", "using ", " undo", "rule 1 1 1 1 0 ",
    # Newlines and other signs.
    "\n", "pass\n", "\npass", "borrow\n0", "borrow 0\n", "borrow 0\nborrow 1", "pass\npass", "using\n", "faults 1\n",
    "rule 1 1 1 1 0\n", "borrow\t0", "\tpass", "pass;", "pass; pass", "borrow 0; pass", "borrow,0",
    # A word too few.
    "rule", "rule 1 1 1 1", "rule 1", "borrow", "word", "back", "crash", "stop", "cut", "join", "faults",
    # A word too many.
    "rule 1 1 1 1 0 0", "pass 0", "pass pass", "borrow 0 0", "borrow 0 1", "word 0 0", "using 0", "using using", "faults 1 1",
    "faults 2 over", "safe 1", "safe safe", "undo 1", "undo undo",
    # Unknown words.
    "x", "help", "Pass", "PASS", "Borrow 0", "lend 0", "calm", "none", "over", "seats 1 lapse 1 beat 1 grace 1 late 0", "follow 1",
    "words 0", "0", "0 borrow", "rules 1 1 1 1 0", "faults over", "fault 1", "len", "several", "user 0", "undone",
    # No numbers.
    "borrow x", "borrow one", "word None", "borrow borrow", "rule a b c d e", "rule 1 1 1 1 x", "rule x 1 1 1 0", "faults x",
    "faults all", "borrow 0x1", "borrow 1a", "borrow 0.0", "borrow 1_0", "borrow '0'", "cut (0)", "borrow 1,0",
    # Leading zeros.
    "borrow 00", "borrow 01", "word 00", "faults 01", "faults 00", "rule 01 1 1 1 0", "rule 1 1 1 1 00", "rule 1 1 09 1 0",
    # Three digits.
    "borrow 100", "borrow 999", "cut 000", "faults 100", "rule 100 1 1 1 0", "rule 1 100 1 1 0", "rule 1 1 1 1 100",
    "rule 1 1 1000000 1 0", "borrow 10000000000",
    # Signs.
    "borrow -1", "borrow +1", "borrow -0", "faults -1", "faults +1", "rule -1 1 1 1 0", "rule 1 1 1 1 -1", "rule 1 1 1 1 +0",
    # Too small a number of users.
    "faults 0",
)


def shown(desk):
    """What the desk tells of its house, and how much can be taken back."""
    return tuple(desk.say(word) for word in ("using", "safe", "faults 1", "faults 2", "faults 60")) + (len(desk),)


def desk_with(*commands):
    desk = Desk()
    for command in commands:
        desk.say(command)
    return desk


class DeskCase(unittest.TestCase):
    def says(self, desk, *pairs):
        for command, expected in pairs:
            told = desk.say(command)
            self.assertIs(type(told), str)
            self.assertEqual(told, expected, command)

    def wrong(self, desk, command, error, **attributes):
        """A command raises an error, and the desk is as it was."""
        ahead = shown(desk)
        with self.assertRaises(error) as caught:
            desk.say(command)
        self.assertIs(type(caught.exception), error)
        self.assertEqual(vars(caught.exception), attributes, command)
        self.assertEqual(shown(desk), ahead, command)


class CommandTest(DeskCase):
    def test_a_row_of_commands(self):
        self.says(
            Desk(), ("rule 1 2 1 3 0", "2"), ("borrow 0", "calm"), ("cut 0", "calm"), ("pass", "calm"), ("pass", "calm"),
            ("borrow 1", "over twice"), ("using", "0 1"), ("safe", "4"), ("undo", "undone"), ("using", "0"),
        )

    def test_the_rule_at_first(self):
        desk = Desk()
        self.assertEqual(len(desk), 0)
        self.says(desk, ("using", "none"), ("safe", "2"), ("undo", "nothing"), ("faults 1", "taken"))
        self.says(desk, ("faults 2", "over taken twice waits"), ("borrow 0", "calm"), ("borrow 1", "calm"))
        self.says(desk, ("pass", "taken"))
        self.wrong(desk, "pass", Refused, at=3)
        self.says(desk, ("borrow 1", "over twice"), ("using", "0 1"))

    def test_rule_tells_the_most_of_60_users(self):
        for numbers in ((1, 1, 1, 1, 0), (2, 3, 2, 5, 1), (4, 9, 9, 9, 9), (4, 1, 1, 9, 9), (3, 1, 1, 19, 0), (4, 1, 1, 14, 0)):
            text = " ".join(map(str, numbers))
            self.says(Desk(), ("rule " + text, str(most(Rule(*numbers), 60))))
        self.says(Desk(), ("rule 4 1 1 9 9", "60"), ("rule 3 1 1 19 0", "60"), ("rule 3 1 1 18 0", "57"))
        self.says(Desk(), ("rule 4 99 99 99 99", "12"), ("rule 99 1 1 1 0", "60"))

    def test_rule_begins_a_new_house(self):
        desk = desk_with("borrow 0", "cut 1", "pass")
        self.says(desk, ("rule 2 3 2 5 1", "6"), ("using", "none"), ("safe", "7"), ("borrow 1", "calm"))
        self.says(desk, ("rule 2 3 2 5 1", "6"), ("using", "none"), ("borrow 1", "calm"), ("using", "1"))

    def test_each_event(self):
        desk = desk_with("rule 2 9 9 2 9")
        self.says(
            desk, ("borrow 0", "calm"), ("borrow 99", "calm"), ("using", "0 99"), ("pass", "calm"), ("word 0", "calm"),
            ("cut 0", "calm"), ("join 0", "calm"), ("pass", "calm"), ("stop 99", "calm"), ("using", "0"), ("back 0", "calm"),
            ("using", "none"), ("borrow 7", "calm"), ("crash 7", "calm"), ("using", "none"),
        )
        self.assertEqual(len(desk), 12)

    def test_each_fault(self):
        desk = desk_with("rule 1 2 9 9 0", "borrow 0", "pass")
        self.says(desk, ("pass", "taken"), ("borrow 1", "over twice"), ("pass", "over twice"), ("pass", "over taken twice"))
        desk = desk_with("rule 1 2 9 9 0", "borrow 0", "crash 0")
        self.says(desk, ("borrow 1", "waits"), ("borrow 0", "calm"))

    def test_using_is_ascending(self):
        desk = desk_with("rule 4 9 9 9 9", "borrow 10", "borrow 9", "borrow 2", "borrow 0")
        self.says(desk, ("using", "0 2 9 10"), ("back 2", "calm"), ("using", "0 9 10"))

    def test_using_and_others_are_no_deeds(self):
        desk = desk_with("borrow 0")
        for command in ("using", "safe", "faults 3", "using"):
            desk.say(command)
        self.assertEqual(len(desk), 1)
        self.says(desk, ("undo", "undone"), ("undo", "nothing"))

    def test_faults(self):
        desk = desk_with("rule 2 3 2 5 1")
        self.says(desk, ("faults 1", "taken"), ("faults 2", "taken twice"), ("faults 3", "over taken twice waits"))
        self.says(desk, ("faults 60", "over taken twice waits"), ("faults 99", "over taken twice waits"))
        self.says(desk, ("rule 2 7 2 5 1", "2"), ("faults 1", "none"), ("faults 2", "none"), ("faults 3", "waits"))

    def test_safe(self):
        self.says(Desk(), ("rule 1 9 9 1 0", "1"), ("safe", "2"), ("rule 1 9 9 9 9", "3"), ("safe", "19"))
        self.says(Desk(), ("rule 1 1 1 99 99", "60"), ("safe", "199"))

    def test_it_tells_what_the_functions_tell(self):
        dice = random.Random(5)
        for _ in range(60):
            numbers = [dice.randrange(1, top) for top in (5, 10, 10, 10)] + [dice.randrange(10)]
            rule, desk = Rule(*numbers), Desk()
            self.says(desk, ("rule " + " ".join(map(str, numbers)), str(most(rule, 60))), ("safe", str(safe_lapse(rule))))
            for users in (1, 2, 3, 4, 5, 6, 60):
                self.says(desk, (f"faults {users}", " ".join(faults(rule, users)) or "none"))


class UndoTest(DeskCase):
    def test_nothing(self):
        desk = Desk()
        self.says(desk, ("undo", "nothing"), ("undo", "nothing"))
        self.assertEqual(len(desk), 0)

    def test_over_rules_and_events(self):
        desk, seen = Desk(), []
        commands = (
            "borrow 0", "pass", "rule 2 3 2 5 1", "borrow 1", "cut 1", "rule 2 3 2 5 1", "rule 1 2 9 9 0", "borrow 5", "pass",
            "pass", "borrow 4",
        )
        for at, command in enumerate(commands):
            self.assertEqual(len(desk), at)
            seen.append(shown(desk))
            desk.say(command)
        self.says(desk, ("using", "4 5"))
        for ahead in reversed(seen):
            self.says(desk, ("undo", "undone"))
            self.assertEqual(shown(desk), ahead)
        self.says(desk, ("undo", "nothing"))
        self.assertEqual(shown(desk), seen[0])

    def test_the_day_goes_on_behind_it(self):
        desk = desk_with("rule 1 2 9 9 0", "borrow 0", "pass", "rule 1 1 1 1 0", "cut 0", "undo", "undo")
        self.says(desk, ("using", "0"), ("pass", "taken"))
        self.wrong(desk, "borrow 0", Refused, at=3)

    def test_behind_an_error(self):
        desk = desk_with("borrow 0")
        self.wrong(desk, "borrow 0", Refused, at=1)
        self.wrong(desk, "rule 0 1 1 1 0", InvalidRule, word="seats")
        self.wrong(desk, "borrow", InvalidCommand)
        self.says(desk, ("undo", "undone"), ("using", "none"), ("undo", "nothing"))

    def test_40_commands(self):
        desk = desk_with(*["cut 0", "join 0"] * 20)
        self.assertEqual(len(desk), 40)
        self.assertEqual([desk.say("undo") for _ in range(41)], ["undone"] * 40 + ["nothing"])


class WrongTest(DeskCase):
    def test_no_strings(self):
        for desk in (Desk(), desk_with("borrow 0", "pass")):
            for value in (*NO_STRINGS, desk, ("pass",), ["borrow 0"], ("borrow", 0), b"pass"):
                self.wrong(desk, value, InvalidCommand)

    def test_wrong_forms(self):
        for desk in (Desk(), desk_with("rule 2 3 2 5 1", "borrow 0", "pass")):
            for command in WRONG_FORMS:
                self.wrong(desk, command, InvalidCommand)

    def test_each_command_with_a_word_more_and_a_word_less(self):
        desk = desk_with("borrow 0")
        commands = ["rule 1 1 1 1 0", "pass", "using", "faults 1", "safe", "undo", *[f"{word} 0" for word in USER_WORDS]]
        for command in commands:
            for wrong in (command + " 0", command + " x", command + " ", " " + command, command + "\n", "x " + command):
                self.wrong(desk, wrong, InvalidCommand)
            self.wrong(desk, command.rpartition(" ")[0], InvalidCommand)
            self.wrong(desk, command.replace(" ", "  ") + " ", InvalidCommand)
            self.wrong(desk, command.capitalize(), InvalidCommand)

    def test_digits_of_other_scripts(self):
        for digit in ("\u0661", "\u00b2", "\uff11"):
            self.wrong(Desk(), "borrow " + digit, InvalidCommand)

    def test_long_texts(self):
        for command in ("x" * 1000, "borrow " + "1" * 990, " " * 1000, "0 " * 500, "\n" * 1000, "pass " * 200):
            self.wrong(Desk(), command, InvalidCommand)

    def test_rules(self):
        desk = desk_with("rule 2 3 2 5 1", "borrow 0")
        for command, word in (
            ("rule 0 1 1 1 0", "seats"), ("rule 1 0 1 1 0", "lapse"), ("rule 1 1 0 1 0", "beat"), ("rule 1 1 1 0 0", "grace"),
            ("rule 0 0 0 0 0", "seats"), ("rule 99 0 0 99 99", "lapse"), ("rule 1 1 0 0 0", "beat"),
        ):
            self.wrong(desk, command, InvalidRule, word=word)
        self.wrong(desk, "rule 0 1 1 1 00", InvalidCommand)
        self.wrong(desk, "rule 0 1 1 1", InvalidCommand)

    def test_refused(self):
        desk = Desk()
        for command in ("word 0", "back 0", "crash 0", "stop 0", "join 0"):
            self.wrong(desk, command, Refused, at=0)
        desk = desk_with("rule 2 9 9 9 9", "borrow 0", "cut 1", "pass")
        for command in ("borrow 0", "borrow 1", "stop 0", "cut 1", "join 0", "word 1", "word 99"):
            self.wrong(desk, command, Refused, at=3)
        desk.say("rule 2 9 9 9 9")
        self.wrong(desk, "word 0", Refused, at=0)
        desk.say("undo")
        self.wrong(desk, "borrow 0", Refused, at=3)
        desk.say("undo")
        self.wrong(desk, "borrow 0", Refused, at=2)


class ObjectTest(DeskCase):
    def test_two_side_by_side(self):
        one, other = Desk(), Desk()
        self.says(one, ("rule 2 3 2 5 1", "6"), ("borrow 0", "calm"))
        self.says(other, ("using", "none"), ("safe", "2"), ("undo", "nothing"), ("borrow 3", "calm"))
        self.says(one, ("using", "0"), ("undo", "undone"), ("using", "none"))
        self.says(other, ("using", "3"))
        self.assertEqual((len(one), len(other)), (1, 1))

    def test_by_name(self):
        self.assertEqual(Desk().say(command="using"), "none")

    def test_it_is_not_iterable(self):
        for desk in (Desk(), desk_with("borrow 0")):
            for work in (iter, list, tuple, lambda box: "pass" in box, lambda box: [*box], reversed):
                with self.assertRaises(TypeError):
                    work(desk)

    def test_the_same_call_again(self):
        desk = desk_with("rule 2 3 2 5 1", "borrow 0")
        first = shown(desk)
        desk_with("rule 1 1 1 1 0", "borrow 5").say("using")
        self.assertEqual(shown(desk), first)


class WalkTest(DeskCase):
    """Many commands, mixed by a number, against a live house."""

    def said(self, live, event):
        return " ".join(live.do(event)) or "calm"

    def test_walks(self):
        commands = [Day([event]) for event in all_events(3)] + [Day([("pass",)])] * 8 + [Day([("borrow", 0)])] * 2
        for seed in range(30):
            dice, desk, live = random.Random(seed), Desk(), Live(Rule(1, 1, 1, 1))
            for _ in range(60):
                deed = dice.choice(("event",) * 12 + ("rule", "undo", "undo"))
                if deed == "rule":
                    numbers = [dice.randrange(1, 4), *[dice.randrange(1, 6) for _ in range(3)], dice.randrange(3)]
                    live.follow(Rule(*numbers))
                    self.says(desk, ("rule " + " ".join(map(str, numbers)), str(most(live.rule, 60))))
                elif deed == "undo":
                    self.says(desk, ("undo", "undone" if live.undo() else "nothing"))
                else:
                    day = dice.choice(commands)
                    try:
                        expected = self.said(live, day[0])
                    except Refused as error:
                        self.wrong(desk, str(day), Refused, at=error.at)
                    else:
                        self.says(desk, (str(day), expected))
                self.says(desk, ("using", " ".join(str(one[0]) for one in live.played.using) or "none"))
                self.says(desk, ("safe", str(safe_lapse(live.rule))))
                self.assertEqual(len(desk), len(live))


if __name__ == "__main__":
    unittest.main()
