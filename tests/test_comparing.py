"""[17]: comparing, with what [1], [2] and [3] say of it."""

import itertools
import unittest

from lapseseats.comparing import beats, best_of, no_more
from lapseseats.deciding import happens, longest_kept, most
from lapseseats.forms import per_seat
from lapseseats.rules import Rule
from tests.helpers import kept_by_search, least_by_search, states_by_events

RULE = Rule(2, 3, 2, 5, 1)
MILLION = 1000000
GREAT = Rule(4, MILLION, MILLION, MILLION, MILLION)
# Beyond this number of users, no small rule lets more use.
MANY = 200

GREAT_RULES = (
    GREAT,
    GREAT.but("late", 0),
    GREAT.but("seats", 1),
    GREAT.but("lapse", 1),
    GREAT.but("lapse", MILLION - 1),
    GREAT.but("beat", 1),
    GREAT.but("grace", 1),
    GREAT.but("grace", 1).but("late", 0),
    GREAT.but("lapse", 1).but("seats", 3),
    GREAT.but("lapse", 2).but("beat", 1).but("late", 0),
)


def small_rules():
    for numbers in itertools.product((1, 2, 4), (1, 2, 3, 5), (1, 3), (1, 2, 4), (0, 2)):
        yield Rule(*numbers)


def tellings(rule):
    """What rules are compared by, from the functions that the document names."""
    # With as many users as can have a seat at once, and one more, as many as possible use.
    beyond = most(rule, rule.seats * per_seat(rule) + 1) - rule.seats
    return (beyond, longest_kept(rule), happens(rule, 1, "taken") or happens(rule, 60, "taken"))


def is_beaten(told, other):
    return all(one <= two for one, two in zip(other, told)) and any(one < two for one, two in zip(other, told))


class NoMoreTest(unittest.TestCase):
    def test_by_hand(self):
        # Three at each of two seats: six.
        self.assertIs(no_more(RULE, Rule(6, 9, 1, 1)), True)
        self.assertIs(no_more(Rule(6, 9, 1, 1), RULE), True)
        self.assertIs(no_more(RULE, Rule(5, 9, 1, 1)), False)
        self.assertIs(no_more(Rule(5, 9, 1, 1), RULE), True)

    def test_a_rule_and_itself(self):
        for rule in (*small_rules(), *GREAT_RULES):
            self.assertIs(no_more(rule, rule), True)

    def test_more_and_fewer_seats(self):
        self.assertIs(no_more(RULE, RULE.but("seats", 3)), True)
        self.assertIs(no_more(RULE.but("seats", 3), RULE), False)
        # Fewer seats let more use if more can have one of them.
        self.assertIs(no_more(Rule(1, 1, 1, 4), Rule(4, 9, 1, 4)), False)
        self.assertIs(no_more(Rule(4, 9, 1, 4), Rule(1, 1, 1, 4)), True)

    def test_each_number(self):
        self.assertEqual([no_more(RULE.but("lapse", lapse), RULE) for lapse in (1, 2, 3, 4, 9)], [
            False, False, True, True, True,
        ])
        self.assertEqual([no_more(RULE.but("grace", grace), RULE) for grace in (1, 5, 7, 8, 9)], [
            True, True, True, False, False,
        ])
        self.assertEqual([no_more(RULE.but("late", late), RULE) for late in (0, 1, 3, 4)], [True, True, True, False])
        self.assertEqual([no_more(RULE.but("beat", beat), RULE) for beat in (1, 2, MILLION)], [True] * 3)

    def test_against_most_for_each_number_of_users(self):
        told = [(rule, [most(rule, users) for users in range(1, MANY)]) for rule in small_rules()]
        for (p, by_p), (q, by_q) in itertools.product(told, told):
            self.assertIs(no_more(p, q), all(one <= two for one, two in zip(by_p, by_q)), f"{p}, {q}")

    def test_by_search(self):
        rules = [Rule(*numbers) for numbers in ((1, 1, 1, 1), (1, 2, 1, 1), (2, 2, 1, 1), (1, 1, 1, 1, 1), (2, 1, 1, 1))]
        told = []
        for rule in rules:
            by_users = [states_by_events(rule, users) for users in (1, 2, 3)]
            told.append([max(len(using) for using, _, _ in states) for states in by_users])
        for (p, by_p), (q, by_q) in itertools.product(zip(rules, told), repeat=2):
            if no_more(p, q):
                self.assertTrue(all(one <= two for one, two in zip(by_p, by_q)), f"{p}, {q}")
        self.assertEqual(told, [[1, 2, 2], [1, 1, 1], [1, 2, 2], [1, 2, 3], [1, 2, 3]])
        self.assertIs(no_more(rules[0], rules[2]) and no_more(rules[2], rules[0]), True)
        self.assertIs(no_more(rules[3], rules[0]), False)

    def test_great_numbers(self):
        self.assertIs(no_more(GREAT, GREAT.but("lapse", MILLION - 1)), True)
        self.assertIs(no_more(GREAT.but("lapse", 1), GREAT), False)
        self.assertIs(no_more(GREAT.but("lapse", 1).but("seats", 3), GREAT.but("lapse", 1)), True)
        # 2,000,000 // 666,667 is 2, and 2,000,000 // 666,666 is 3.
        self.assertIs(no_more(GREAT.but("lapse", 666667), GREAT), True)
        self.assertIs(no_more(GREAT.but("lapse", 666666), GREAT), False)
        for p, q in itertools.product(GREAT_RULES, GREAT_RULES):
            by_users = [(most(p, users), most(q, users)) for users in (1, 4, 12, 16, 3 * MILLION, 10 * MILLION)]
            self.assertIs(no_more(p, q), all(one <= two for one, two in by_users), f"{p}, {q}")


class BeatsTest(unittest.TestCase):
    def test_a_rule_and_itself(self):
        for rule in (*small_rules(), *GREAT_RULES):
            self.assertIs(beats(rule, rule), False)
            self.assertIs(beats(rule, Rule.read(str(rule))), False)

    def test_better_in_the_first_alone(self):
        # Of one lapse, and never taken: a shorter grace lets fewer use beyond the seats.
        p, q = Rule(2, 3, 1, 2), Rule(2, 3, 1, 3)
        self.assertEqual((tellings(p), tellings(q)), ((0, 3, False), (2, 3, False)))
        self.assertIs(beats(p, q), True)
        self.assertIs(beats(q, p), False)

    def test_better_in_the_second_alone(self):
        p, q = Rule(2, 6, 1, 2), Rule(2, 7, 1, 2)
        self.assertEqual((tellings(p), tellings(q)), ((0, 6, False), (0, 7, False)))
        self.assertIs(beats(p, q), True)
        self.assertIs(beats(q, p), False)

    def test_better_in_the_third_alone(self):
        p, q = Rule(2, 3, 2, 5), Rule(2, 3, 3, 5)
        self.assertEqual((tellings(p), tellings(q)), ((2, 3, False), (2, 3, True)))
        self.assertIs(beats(p, q), True)
        self.assertIs(beats(q, p), False)

    def test_better_in_one_and_worse_in_another(self):
        p, q = Rule(2, 3, 2, 5), Rule(2, 6, 2, 5)
        self.assertEqual((tellings(p), tellings(q)), ((2, 3, False), (0, 6, False)))
        self.assertIs(beats(p, q), False)
        self.assertIs(beats(q, p), False)

    def test_alike_in_all(self):
        # The numbers of the rules differ, but not what they are compared by.
        p, q = Rule(2, 9, 2, 5), Rule(3, 9, 4, 3)
        self.assertEqual(tellings(p), tellings(q))
        self.assertIs(beats(p, q), False)
        self.assertIs(beats(q, p), False)

    def test_those_beyond_the_seats_count_and_not_those_who_use(self):
        # Eight use four seats, and nine use three.
        p, q = Rule(4, 3, 1, 3), Rule(3, 3, 1, 6)
        self.assertEqual((tellings(p), tellings(q)), ((4, 3, False), (6, 3, False)))
        self.assertIs(beats(p, q), True)
        # Four use four seats, and two use one: none is beyond the seats, and one is.
        p, q = Rule(4, 3, 1, 2), Rule(1, 3, 1, 3)
        self.assertIs(no_more(p, q), False)
        self.assertIs(beats(p, q), True)
        self.assertIs(beats(q, p), False)

    def test_more_seats_are_no_worse_if_none_is_beyond_them(self):
        for p, q in itertools.product((Rule(1, 3, 1, 2), Rule(4, 3, 1, 2)), repeat=2):
            self.assertIs(beats(p, q), False)
        self.assertIs(beats(Rule(1, 3, 1, 3), Rule(2, 3, 1, 3)), True)

    def test_against_the_functions(self):
        told = [(rule, tellings(rule)) for rule in (*small_rules(), *GREAT_RULES)]
        for (p, by_p), (q, by_q) in itertools.product(told, told):
            self.assertIs(beats(p, q), is_beaten(by_q, by_p), f"{p}, {q}")

    def test_by_search(self):
        rules = [Rule(1, *rest) for rest in itertools.product((1, 2, 3), (1, 2), (1, 2), (0,))]
        told = []
        for rule in rules:
            states = states_by_events(rule, 3)
            beyond = max(len(using) for using, _, _ in states) - rule.seats
            taken = "taken" in least_by_search(rule, 3, states)
            told.append((beyond, kept_by_search(rule, 3, states), taken))
        for (p, by_p), (q, by_q) in itertools.product(zip(rules, told), repeat=2):
            self.assertIs(beats(p, q), is_beaten(by_q, by_p), f"{p}, {q}")

    def test_great_numbers(self):
        self.assertIs(beats(GREAT.but("seats", 3), GREAT), True)
        self.assertIs(beats(GREAT, GREAT.but("seats", 3)), False)
        self.assertIs(beats(GREAT.but("beat", 1), GREAT), False)
        late = GREAT.but("late", 0)
        self.assertEqual((tellings(late), tellings(late.but("beat", 1))), ((4, MILLION, True), (4, MILLION, False)))
        self.assertIs(beats(late.but("beat", 1), late), True)
        self.assertIs(beats(late.but("beat", MILLION - 1), late), True)


class BestOfTest(unittest.TestCase):
    def test_none_and_one(self):
        self.assertEqual((best_of([]), best_of(())), ((), ()))
        self.assertEqual((best_of([RULE]), best_of((GREAT,))), ((0,), (0,)))

    def test_equal_rules(self):
        self.assertEqual(best_of([RULE, RULE, Rule.read(str(RULE))]), (0, 1, 2))
        better = RULE.but("grace", 1)
        self.assertEqual(best_of([RULE, better, RULE, better]), (1, 3))

    def test_rules_that_are_alike_in_all(self):
        self.assertEqual(best_of([Rule(2, 9, 2, 5), Rule(3, 9, 4, 3)]), (0, 1))

    def test_several_that_beat_one_another(self):
        # Each one beats those behind it.
        row = [Rule(2, 3, 1, 2), Rule(2, 3, 1, 3), Rule(2, 3, 3, 3), Rule(3, 3, 3, 3), Rule(3, 3, 3, 6)]
        for at, rule in enumerate(row):
            self.assertEqual([beats(rule, other) for other in row], [False] * (at + 1) + [True] * (4 - at))
        for order in itertools.permutations(row):
            self.assertEqual(best_of(order), (order.index(row[0]),))

    def test_none_beats_another_one(self):
        row = [Rule(2, lapse, 1, 6) for lapse in (1, 2, 3, 4, 7)]
        self.assertEqual(best_of(row), (0, 1, 2, 3, 4))
        self.assertEqual(best_of([*row, row[2].but("grace", 7), row[2].but("grace", 9)]), (0, 1, 2, 3, 4, 5))

    def test_lists_and_tuples(self):
        row = [RULE, RULE.but("grace", 1), RULE.but("lapse", 9)]
        self.assertEqual(best_of(row), best_of(tuple(row)))

    def test_against_beats(self):
        rules = [*small_rules(), *GREAT_RULES]
        for step in (1, 5, 17):
            for part in (rules[::step], rules[::-step]):
                expected = [at for at, rule in enumerate(part) if not any(beats(other, rule) for other in part)]
                self.assertEqual(best_of(part), tuple(expected))


class ArgumentsTest(unittest.TestCase):
    def test_arguments_by_name(self):
        self.assertIs(no_more(q=RULE, p=RULE.but("seats", 3)), False)
        self.assertIs(beats(q=RULE, p=RULE.but("grace", 1)), True)
        self.assertEqual(best_of(rules=[RULE]), (0,))

    def test_arguments_are_not_changed(self):
        row = [RULE, RULE.but("grace", 1)]
        texts = [str(rule) for rule in row]
        self.assertEqual(best_of(row), (1,))
        self.assertEqual([str(rule) for rule in row], texts)

    def test_kinds_of_results(self):
        self.assertEqual({type(best_of([RULE])), *map(type, best_of([RULE]))}, {tuple, int})

    def test_the_same_call_again(self):
        row = list(small_rules())[:20]
        first = (best_of(row), no_more(RULE, row[3]), beats(RULE, row[3]))
        best_of(row[::-1])
        self.assertEqual((best_of(row), no_more(RULE, row[3]), beats(RULE, row[3])), first)


if __name__ == "__main__":
    unittest.main()
