"""[5]: the rules, with what [1], [2] and [3] say of them."""

import unittest

from lapseseats.days import Day
from lapseseats.errors import InvalidRule, InvalidText
from lapseseats.rules import Rule
from tests.helpers import NO_INTEGERS, NO_STRINGS

WORDS = ("seats", "lapse", "beat", "grace", "late")
LEAST = (1, 1, 1, 1, 0)
GOOD = (2, 3, 2, 5, 1)
TEXT = "seats 2 lapse 3 beat 2 grace 5 late 1"


def numbers(rule):
    return tuple(getattr(rule, word) for word in WORDS)


class RuleCase(unittest.TestCase):
    def wrong_rule(self, word, work, *given, **named):
        with self.assertRaises(InvalidRule) as caught:
            work(*given, **named)
        self.assertEqual(caught.exception.word, word)
        return caught.exception

    def wrong_text(self, at, text):
        with self.assertRaises(InvalidText) as caught:
            Rule.read(text)
        self.assertEqual(caught.exception.at, at, repr(text))


class MakingTest(RuleCase):
    def test_attributes_are_the_arguments(self):
        self.assertEqual(numbers(Rule(2, 3, 4, 5, 6)), (2, 3, 4, 5, 6))

    def test_late_may_be_left_out(self):
        self.assertEqual(numbers(Rule(2, 3, 4, 5)), (2, 3, 4, 5, 0))

    def test_arguments_by_name(self):
        rule = Rule(late=6, grace=5, beat=4, lapse=3, seats=2)
        self.assertEqual(numbers(rule), (2, 3, 4, 5, 6))
        self.assertEqual(numbers(Rule(2, 3, grace=5, beat=4)), (2, 3, 4, 5, 0))

    def test_the_least_numbers(self):
        self.assertEqual(numbers(Rule(*LEAST)), LEAST)
        for at, word in enumerate(WORDS):
            low = list(GOOD)
            low[at] = LEAST[at] - 1
            self.wrong_rule(word, Rule, *low)
            low[at] = -10 ** 20
            self.wrong_rule(word, Rule, *low)

    def test_great_numbers_are_good(self):
        great = (4, 1000000, 1000000, 1000000, 1000000)
        self.assertEqual(numbers(Rule(*great)), great)
        beyond = (9, 10 ** 7, 10 ** 8, 10 ** 9, 10 ** 20)
        self.assertEqual(numbers(Rule(*beyond)), beyond)

    def test_values_that_are_no_integers(self):
        for at, word in enumerate(WORDS):
            for value in NO_INTEGERS:
                given = list(GOOD)
                given[at] = value
                self.wrong_rule(word, Rule, *given)

    def test_the_first_wrong_argument_is_named(self):
        for first in range(5):
            for value in (True, None, "1", [1], (1,), -1):
                given = [*GOOD[:first], *[value] * (5 - first)]
                self.wrong_rule(WORDS[first], Rule, *given)
        self.wrong_rule("lapse", Rule, 1, 0, 1, None, "x")
        self.wrong_rule("beat", Rule, late=-1, beat=False, grace=0, lapse=1, seats=1)
        self.wrong_rule("grace", Rule, 1, 1, 1, 0)


class TextTest(RuleCase):
    def test_str(self):
        self.assertEqual(str(Rule(2, 3, 2, 5, 1)), TEXT)
        self.assertEqual(str(Rule(1, 1, 1, 1)), "seats 1 lapse 1 beat 1 grace 1 late 0")
        self.assertEqual(str(Rule(10, 20, 30, 40, 50)), "seats 10 lapse 20 beat 30 grace 40 late 50")

    def test_read_is_the_rule_with_the_text(self):
        for given in (GOOD, LEAST, (4, 1000000, 999999, 10, 9999999), (3, 1, 4, 1, 5)):
            rule = Rule(*given)
            self.assertIs(type(Rule.read(str(rule))), Rule)
            self.assertEqual(numbers(Rule.read(str(rule))), given)
        self.assertEqual(numbers(Rule.read(text=TEXT)), GOOD)

    def test_each_word_otherwise(self):
        right = TEXT.split(" ")
        for at in range(10):
            for part in ("", "seat", "Lapse", "x", "-1", "+1", "1.0", "1_0", "0x1", "2\n", "\n", "late\n", "one"):
                parts = list(right)
                parts[at] = part
                self.wrong_text(at, " ".join(parts))

    def test_words_and_numbers_in_each_others_places(self):
        self.wrong_text(0, "2 seats lapse 3 beat 2 grace 5 late 1")
        self.wrong_text(0, "lapse 3 seats 2 beat 2 grace 5 late 1")
        self.wrong_text(4, "seats 2 lapse 3 grace 5 beat 2 late 1")
        self.wrong_text(1, "seats seats lapse 3 beat 2 grace 5 late 1")

    def test_spaces_that_are_not_single(self):
        self.wrong_text(0, " " + TEXT)
        self.wrong_text(10, TEXT + " ")
        self.wrong_text(1, TEXT.replace("seats 2", "seats  2"))
        self.wrong_text(2, TEXT.replace("2 lapse", "2  lapse"))
        self.wrong_text(0, TEXT.replace(" ", "\n"))
        self.wrong_text(9, TEXT + "\n")
        self.wrong_text(0, TEXT.replace(" ", "\t"))

    def test_the_first_wrong_word_counts(self):
        self.wrong_text(3, "seats 2 lapse x beat y grace 5 late 1")
        self.wrong_text(3, "seats 2 lapse x")
        self.wrong_text(9, TEXT + "x more words")

    def test_too_few_words(self):
        right = TEXT.split(" ")
        self.wrong_text(0, "")
        for many in range(1, 10):
            self.wrong_text(many, " ".join(right[:many]))

    def test_too_many_words(self):
        self.wrong_text(10, TEXT + " x")
        self.wrong_text(10, TEXT + " late 1")
        self.wrong_text(10, TEXT + " " + TEXT)

    def test_leading_zeros(self):
        for at in range(1, 10, 2):
            for part in ("00", "01", "007", "0000000", "0000001"):
                parts = TEXT.split(" ")
                parts[at] = part
                self.wrong_text(at, " ".join(parts))

    def test_how_many_digits(self):
        for at in range(1, 10, 2):
            parts = TEXT.split(" ")
            parts[at] = "1234567"
            self.assertEqual(numbers(Rule.read(" ".join(parts)))[at // 2], 1234567)
            parts[at] = "12345678"
            self.wrong_text(at, " ".join(parts))

    def test_digits_of_other_scripts(self):
        for digit in ("\u00b2", "\u0663", "\uff12"):
            self.wrong_text(1, TEXT.replace("seats 2", "seats " + digit))

    def test_values_that_are_no_string(self):
        for value in NO_STRINGS:
            self.wrong_text(0, value)

    def test_numbers_that_make_no_rule(self):
        for at, word in enumerate(WORDS[:4]):
            parts = TEXT.split(" ")
            parts[2 * at + 1] = "0"
            self.wrong_rule(word, Rule.read, " ".join(parts))
        self.wrong_rule("lapse", Rule.read, "seats 2 lapse 0 beat 0 grace 0 late 0")
        self.assertEqual(Rule.read("seats 2 lapse 3 beat 2 grace 5 late 0").late, 0)

    def test_wrong_texts_come_ahead_of_wrong_rules(self):
        self.wrong_text(3, "seats 0 lapse x beat 2 grace 5 late 1")
        self.wrong_text(2, "seats 0")
        self.wrong_text(10, "seats 0 lapse 3 beat 2 grace 5 late 1 x")


class ButTest(RuleCase):
    def test_another_number(self):
        for at, word in enumerate(WORDS):
            expected = list(GOOD)
            expected[at] = 77
            changed = Rule(*GOOD).but(word, 77)
            self.assertIs(type(changed), Rule)
            self.assertEqual(numbers(changed), tuple(expected))

    def test_the_same_number_and_the_least(self):
        for at, word in enumerate(WORDS):
            self.assertEqual(Rule(*GOOD).but(word, GOOD[at]), Rule(*GOOD))
            self.assertEqual(getattr(Rule(*GOOD).but(word, LEAST[at]), word), LEAST[at])

    def test_arguments_by_name(self):
        self.assertEqual(Rule(*GOOD).but(number=9, word="beat"), Rule(2, 3, 9, 5, 1))

    def test_the_elder_rule_stays(self):
        rule = Rule(*GOOD)
        for word in WORDS:
            rule.but(word, 9)
            self.wrong_rule(word, rule.but, word, -1)
        self.assertEqual(numbers(rule), GOOD)

    def test_numbers_that_are_wrong(self):
        for at, word in enumerate(WORDS):
            for value in (LEAST[at] - 1, -5, *NO_INTEGERS):
                self.wrong_rule(word, Rule(*GOOD).but, word, value)

    def test_the_error_keeps_the_very_word(self):
        word = "".join(["la", "pse"])
        self.assertIs(self.wrong_rule(word, Rule(*GOOD).but, word, 0).word, word)

    def test_words_that_are_none(self):
        values = ("", "seat", "Seats", "seats ", "but", "read", 0, 1, *NO_STRINGS, [["seats"]], ("seats",))
        for value in values:
            for number in (1, 0, True, None):
                error = self.wrong_rule(value, Rule(*GOOD).but, value, number)
                self.assertIs(error.word, value)


class EqualityTest(RuleCase):
    def test_equal_rules(self):
        self.assertTrue(Rule(1, 2, 3, 4) == Rule(1, 2, 3, 4, 0))
        self.assertFalse(Rule(1, 2, 3, 4) != Rule(1, 2, 3, 4, 0))
        self.assertTrue(Rule(*GOOD) == Rule.read(TEXT))

    def test_each_number_counts(self):
        for word in WORDS:
            other = Rule(*GOOD).but(word, 77)
            self.assertFalse(Rule(*GOOD) == other)
            self.assertTrue(Rule(*GOOD) != other)

    def test_numbers_in_other_places(self):
        self.assertFalse(Rule(1, 2, 3, 4, 5) == Rule(5, 4, 3, 2, 1))
        self.assertFalse(Rule(11, 1, 1, 1) == Rule(1, 11, 1, 1))

    def test_other_things(self):
        rule = Rule(*GOOD)
        for other in (TEXT, GOOD, list(GOOD), None, True, 2, Day(), Day.read("pass"), InvalidRule("seats")):
            self.assertIs(rule == other, False)
            self.assertIs(other == rule, False)
            self.assertIs(rule != other, True)


class IterationTest(RuleCase):
    def test_rules_are_not_iterable(self):
        for work in (iter, list, tuple, lambda rule: 2 in rule, lambda rule: [*rule]):
            with self.assertRaises(TypeError):
                work(Rule(*GOOD))


if __name__ == "__main__":
    unittest.main()
