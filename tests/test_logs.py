"""[14], [15]: the logs, with what [1], [2] and [3] say of them."""

import unittest

from lapseseats.days import Day
from lapseseats.errors import InvalidLog
from lapseseats.logs import calm, can_use, first_misfit, fits, surely_use
from lapseseats.rules import Rule
from tests.helpers import (
    LOG_WORDS, NO_INTEGERS, NO_SEQUENCES, fits_by_search, users_by_search,
)

RULE = Rule(2, 3, 2, 5, 1)
BOOK = ((0, "borrow", 0), (1, "borrow", 1), (2, "word", 0), (5, "borrow", 2), (6, "back", 2))
MILLION = 1000000
GREAT = Rule(4, MILLION, MILLION, MILLION, MILLION)

CALLS = (
    lambda log: fits(RULE, log),
    lambda log: first_misfit(RULE, log),
    lambda log: can_use(RULE, log, 0),
    lambda log: surely_use(RULE, log, 3),
    lambda log: calm(RULE, log, MILLION),
)


class InvalidLogTest(unittest.TestCase):
    def wrong(self, at, log):
        for call in CALLS:
            with self.assertRaises(InvalidLog) as caught:
                call(log)
            self.assertEqual(caught.exception.at, at, repr(log))

    def test_values_that_are_no_sequence(self):
        for value in (*NO_SEQUENCES, 10 ** 30, Day([("borrow", 0)]), RULE, "borrow"):
            self.wrong(0, value)

    def test_things_that_are_no_entry(self):
        things = (
            None, True, 0, "", "borrow", (), [], (0,), (0, "borrow"), (0, "borrow", 0, 0), [0, "borrow", 0],
            [[0, "borrow", 0]], ((0, "borrow", 0),), ("borrow", 0), ("pass",), ("borrow", 0, 0), (0, 0, "borrow"),
            RULE, Day(),
        )
        for thing in things:
            self.wrong(0, [thing])
            self.wrong(1, ((0, "borrow", 0), thing))
            self.wrong(5, [*BOOK, thing, None])
        self.wrong(0, (0, "borrow", 0))

    def test_words_that_are_none(self):
        words = ("", "Borrow", "borrow ", "crash", "stop", "cut", "join", "pass", "say", 0, None, True, ["borrow"],
                 ("borrow",), [], (), RULE, Day())
        for word in words:
            self.wrong(1, [(0, "borrow", 0), (0, word, 0)])

    def test_moments_and_users_that_are_none(self):
        for word in LOG_WORDS:
            for value in (-1, -10 ** 20, *NO_INTEGERS):
                self.wrong(1, [(0, "borrow", 0), (value, word, 0)])
                self.wrong(1, [(0, "borrow", 0), (0, word, value)])
        self.wrong(0, [(-1, "borrow", 0)])
        self.wrong(0, [(False, "borrow", 0)])
        self.wrong(0, [(0, "borrow", True)])

    def test_moments_that_go_back(self):
        self.wrong(1, [(1, "borrow", 0), (0, "borrow", 1)])
        self.wrong(2, [(0, "borrow", 0), (7, "borrow", 1), (6, "word", 0)])
        self.wrong(1, [(MILLION, "borrow", 0), (MILLION - 1, "word", 0), (0, "x", 0)])
        self.wrong(2, [(5, "borrow", 0), (5, "word", 0), (4, "word", 0), (5, "word", 0)])

    def test_the_first_thing_counts(self):
        self.wrong(1, [(1, "borrow", 0), (0, "borrow", 0), None])
        self.wrong(1, [(1, "borrow", 0), None, (0, "borrow", 0)])
        self.wrong(1, [(0, "word", 0), (0, "borrow", -1), (0, "borrow", True)])

    def test_a_wrong_log_comes_ahead_of_one_that_does_not_fit(self):
        self.wrong(3, [(0, "word", 0), (0, "back", 0), (0, "back", 0), [0]])

    def test_a_wrong_entry_behind_the_moment(self):
        self.wrong(2, [(0, "borrow", 0), (MILLION, "word", 0), (MILLION, "crash", 0)])


class FitsTest(unittest.TestCase):
    def fit(self, rule, *log):
        self.assertIs(fits(rule, log), True, log)
        self.assertIs(fits(rule, list(log)), True)
        self.assertIsNone(first_misfit(rule, log))

    def misfit(self, at, rule, *log):
        self.assertIs(fits(rule, log), False, log)
        self.assertEqual(first_misfit(rule, log), at, log)
        self.assertEqual(first_misfit(rule, list(log)), at)
        self.fit(rule, *log[:at])

    def test_the_empty_log(self):
        for rule in (RULE, Rule(1, 1, 1, 1), GREAT):
            self.fit(rule)

    def test_arguments_by_name(self):
        self.assertIs(fits(log=BOOK, rule=RULE), True)
        self.assertIsNone(first_misfit(log=BOOK, rule=RULE))

    def test_first_entries(self):
        self.fit(RULE, (0, "borrow", 0))
        self.fit(RULE, (MILLION, "borrow", 9))
        self.misfit(0, RULE, (0, "word", 0))
        self.misfit(0, RULE, (0, "back", 0))
        self.misfit(0, RULE, (3, "word", 0), (3, "borrow", 0))

    def test_a_seat_must_be_free(self):
        self.misfit(2, RULE, (0, "borrow", 0), (0, "borrow", 1), (2, "borrow", 2))
        self.fit(RULE, (0, "borrow", 0), (0, "borrow", 1), (3, "borrow", 2), (3, "borrow", 3))
        self.misfit(4, RULE, (0, "borrow", 0), (0, "borrow", 1), (3, "borrow", 2), (3, "borrow", 3), (5, "borrow", 4))
        self.misfit(3, RULE, (0, "borrow", 0), (1, "borrow", 1), (3, "borrow", 2), (3, "borrow", 3))
        self.misfit(1, Rule(1, 9, 9, 9), (8, "borrow", 0), (16, "borrow", 1))
        self.fit(Rule(1, 9, 9, 9), (8, "borrow", 0), (17, "borrow", 1))

    def test_a_seat_that_is_given_back_is_free(self):
        self.fit(Rule(1, 9, 9, 9), (0, "borrow", 0), (0, "back", 0), (0, "borrow", 1), (4, "back", 1), (4, "borrow", 0))
        self.misfit(2, Rule(1, 9, 9, 9), (0, "borrow", 0), (0, "back", 0), (0, "back", 0))
        self.misfit(2, Rule(1, 9, 9, 9), (0, "borrow", 0), (0, "back", 0), (0, "word", 0))

    def test_who_has_a_kept_seat_may_borrow_again(self):
        self.fit(Rule(1, 3, 1, 1), (0, "borrow", 0), (0, "borrow", 0), (2, "borrow", 0), (4, "borrow", 0))
        self.misfit(2, Rule(1, 3, 1, 1), (0, "borrow", 0), (2, "borrow", 0), (4, "borrow", 1))
        self.fit(Rule(1, 3, 1, 1), (0, "borrow", 0), (2, "borrow", 0), (5, "borrow", 1))

    def test_who_lost_its_seat_may_borrow_a_free_one(self):
        self.fit(Rule(1, 1, 1, 9), (0, "borrow", 0), (1, "borrow", 0), (2, "borrow", 1), (3, "borrow", 0))
        self.misfit(2, Rule(1, 2, 1, 9), (0, "borrow", 0), (2, "borrow", 1), (3, "borrow", 0))

    def test_the_seat_is_kept_below_the_lapse(self):
        for word in ("word", "back"):
            self.fit(Rule(1, 4, 1, 9), (2, "borrow", 0), (5, word, 0))
            self.misfit(1, Rule(1, 4, 1, 9), (2, "borrow", 0), (6, word, 0))
            self.fit(Rule(1, 4, 1, 9), (2, "borrow", 0), (4, "word", 0), (7, word, 0))

    def test_who_speaks_has_used_up_to_the_grace_and_late(self):
        for word in ("word", "back"):
            self.fit(Rule(1, 9, 1, 2, 1), (0, "borrow", 0), (3, word, 0))
            self.misfit(1, Rule(1, 9, 1, 2, 1), (0, "borrow", 0), (4, word, 0))
            self.misfit(2, Rule(1, 9, 1, 2, 1), (0, "borrow", 0), (2, "word", 0), (6, word, 0))
            self.fit(Rule(1, 9, 1, 2, 1), (0, "borrow", 0), (4, "borrow", 0), (7, word, 0))

    def test_a_seat_that_another_one_has(self):
        for word in ("word", "back"):
            self.misfit(2, Rule(1, 2, 1, 9), (0, "borrow", 0), (2, "borrow", 1), (2, word, 0))
            self.misfit(1, Rule(2, 9, 9, 9), (0, "borrow", 0), (0, word, 1))

    def test_the_misfits_of_the_book(self):
        for at, other in ((2, (4, "word", 0)), (3, (3, "borrow", 2)), (4, (8, "back", 2)), (4, (5, "word", 0))):
            self.misfit(at, RULE, *BOOK[:at], other)

    def test_great_numbers(self):
        self.fit(GREAT, (0, "borrow", 0), (MILLION - 1, "word", 0), (MILLION, "borrow", 1))
        self.misfit(1, GREAT, (0, "borrow", 0), (MILLION, "word", 0))
        self.fit(GREAT.but("lapse", MILLION + 1), (0, "borrow", 0), (MILLION, "word", 0))
        self.fit(Rule(1, MILLION, 1, MILLION - 2, 1), (1, "borrow", 0), (MILLION, "word", 0))
        self.misfit(1, Rule(1, MILLION, 1, MILLION - 3, 1), (1, "borrow", 0), (MILLION, "word", 0))
        self.fit(Rule(1, 1, 1, 1), *[(at * 50000, "borrow", at) for at in range(20)])

    def test_great_users(self):
        self.fit(RULE, (0, "borrow", 10 ** 20), (0, "borrow", 99), (1, "word", 10 ** 20))


class UsersTest(unittest.TestCase):
    def test_ordinary(self):
        self.assertEqual([can_use(RULE, BOOK, at) for at in range(0, 10)], [
            (0,), (0, 1), (0, 1), (0, 1), (0, 1), (0, 1, 2), (0, 1), (0, 1), (0,), (),
        ])
        self.assertEqual([surely_use(RULE, BOOK, at) for at in range(0, 8)], [
            (0,), (0,), (), (), (), (2,), (), (),
        ])
        self.assertEqual([calm(RULE, BOOK, at) for at in (0, 4, 5, 6, MILLION)], [True, True, False, True, True])

    def test_arguments_by_name(self):
        self.assertEqual(can_use(moment=1, log=BOOK, rule=RULE), (0, 1))
        self.assertEqual(surely_use(moment=1, log=BOOK, rule=RULE), (0,))
        self.assertIs(calm(moment=5, log=BOOK, rule=RULE), False)

    def test_the_empty_log(self):
        for moment in (0, 1, MILLION):
            for log in ((), []):
                self.assertEqual((can_use(RULE, log, moment), surely_use(RULE, log, moment)), ((), ()))
                self.assertIs(calm(RULE, log, moment), True)

    def test_ahead_of_the_first_entry(self):
        log = [(3, "borrow", 0), (4, "word", 0)]
        for moment in (0, 1, 2):
            self.assertEqual((can_use(RULE, log, moment), surely_use(RULE, log, moment)), ((), ()))
        self.assertEqual((can_use(RULE, log, 3), surely_use(RULE, log, 3)), ((0,), (0,)))

    def test_all_entries_of_the_moment_count(self):
        log = [(0, "borrow", 0), (0, "back", 0), (0, "borrow", 1), (0, "borrow", 0), (0, "back", 1)]
        self.assertEqual(can_use(RULE, log, 0), (0,))
        self.assertEqual(can_use(RULE, log[:4], 0), (0, 1))
        self.assertEqual(surely_use(RULE, log, 0), ())

    def test_up_to_the_grace_and_late(self):
        for grace, late, lapse, beat in ((2, 1, 1, 1), (1, 0, 9, 9), (3, 3, 2, 9), (5, 0, 9, 1)):
            rule = Rule(1, lapse, beat, grace, late)
            last = 4 + grace + late
            for log in ([(4, "borrow", 0)], [(2, "borrow", 0), (2, "word", 0), (4, "borrow", 0)]):
                found = [can_use(rule, log, at) for at in (3, 4, last, last + 1, MILLION)]
                self.assertEqual(found[1:], [(0,), (0,), (), ()])

    def test_who_spoke_later_has_used(self):
        log = [(0, "borrow", 0), (0, "borrow", 1), (2, "word", 0), (2, "back", 1), (3, "borrow", 0)]
        self.assertEqual([surely_use(RULE, log, at) for at in range(4)], [(0, 1), (0, 1), (), ()])

    def test_who_borrows_later_may_have_crashed(self):
        log = [(0, "borrow", 0), (2, "borrow", 0), (4, "word", 0)]
        self.assertEqual([surely_use(RULE, log, at) for at in range(5)], [(), (), (0,), (0,), ()])
        self.assertEqual([can_use(RULE, log, at) for at in range(5)], [(0,)] * 5)

    def test_who_spoke_in_the_moment_may_crash_behind_it(self):
        log = [(0, "borrow", 0), (2, "word", 0)]
        self.assertEqual(surely_use(RULE, log, 2), ())

    def test_calm_at_as_many_as_there_are_seats(self):
        log = [(0, "borrow", 0), (0, "borrow", 1), (3, "borrow", 2)]
        self.assertEqual([calm(RULE, log, at) for at in (0, 2, 3, 6, 7)], [True, True, False, False, True])
        self.assertIs(calm(Rule(3, 3, 2, 5, 1), log, 3), True)

    def test_later_entries_count(self):
        # User 0 can use at 1 whether it speaks later or not, but only then surely.
        for later, surely in (((2, "word", 0), (0,)), ((2, "back", 0), (0,)), ((2, "borrow", 0), ()), (None, ())):
            log = [(0, "borrow", 0), *[later] * (later is not None)]
            self.assertEqual((can_use(RULE, log, 1), surely_use(RULE, log, 1)), ((0,), surely))

    def test_ascending(self):
        log = [(0, "borrow", 9), (0, "borrow", 10), (1, "word", 10), (1, "word", 9)]
        self.assertEqual((can_use(RULE, log, 0), surely_use(RULE, log, 0)), ((9, 10), (9, 10)))

    def test_great_numbers(self):
        log = [(0, "borrow", 0), (MILLION - 1, "word", 0), (MILLION, "borrow", 1)]
        self.assertEqual(can_use(GREAT, log, MILLION), (0, 1))
        self.assertEqual(surely_use(GREAT, log, MILLION - 2), (0,))
        self.assertEqual(can_use(GREAT, log, 3 * MILLION - 1), (0, 1))
        self.assertEqual(can_use(GREAT, log, 3 * MILLION), (1,))
        log = [(at * 50000, "borrow", at) for at in range(20)]
        rule = Rule(4, 1, 1, MILLION, MILLION)
        self.assertEqual(can_use(rule, log, MILLION), tuple(range(20)))
        self.assertEqual([calm(rule, log, at) for at in (199999, 200000, MILLION)], [True, False, False])

    def test_twenty_entries(self):
        log = [(0, "borrow", 0), *[(at, "word", 0) for at in range(1, 20)]]
        self.assertEqual([surely_use(RULE, log, at) for at in (0, 18, 19)], [(0,), (0,), ()])

    def test_the_argument_is_not_changed(self):
        log = list(BOOK)
        for call in CALLS:
            first = call(log)
            self.assertEqual(log, list(BOOK))
            self.assertEqual(call(tuple(log)), first)

    def test_results_are_tuples(self):
        for moment in (0, 5, 9):
            self.assertIs(type(can_use(RULE, list(BOOK), moment)), tuple)
            self.assertIs(type(surely_use(RULE, list(BOOK), moment)), tuple)


class SearchTest(unittest.TestCase):
    """The logs against a search through all days."""

    def users_match(self, rule, users, log, end):
        for moment in range(end + 1):
            told = f"{rule}; {log}; {moment}"
            then, later = users_by_search(rule, users, log, moment)
            can = can_use(rule, log, moment)
            self.assertEqual(can, tuple(user for user in range(users) if any(user in lot for lot in then)), told)
            # All who can use may do so at once.
            self.assertIn(can, then, told)
            sure = [user for user in range(users) if all(user in lot for lot in (*then, *later))]
            self.assertEqual(surely_use(rule, log, moment), tuple(sure), told)
            self.assertIs(calm(rule, log, moment), max(len(lot) for lot in then) <= rule.seats, told)

    def compare(self, rule, users, entries, moments):
        logs = [()]
        for _ in range(entries):
            logs = [
                (*log, (moment, word, user)) for log in logs
                for moment in range(log[-1][0] if log else 0, moments) for word in LOG_WORDS for user in range(users)
            ]
            fitting = []
            for log in logs:
                found = fits_by_search(rule, users, log)
                self.assertIs(fits(rule, log), found, f"{rule}; {log}")
                self.assertEqual(first_misfit(rule, log), None if found else len(log) - 1, f"{rule}; {log}")
                if found:
                    fitting.append(log)
                    self.users_match(rule, users, log, moments)
            logs = fitting

    def test_one_seat(self):
        for numbers in ((1, 1, 1, 2, 0), (1, 2, 1, 1, 0), (1, 2, 1, 1, 1), (1, 3, 1, 1, 0)):
            self.compare(Rule(*numbers), 2, 2, 5)
        self.compare(Rule(1, 2, 1, 1, 0), 2, 3, 3)

    def test_two_seats(self):
        self.compare(Rule(2, 1, 1, 1, 0), 2, 3, 2)
        self.compare(Rule(2, 2, 1, 2, 0), 2, 2, 4)
        self.compare(Rule(2, 1, 1, 2, 0), 3, 2, 2)

    def test_longer_logs(self):
        self.compare(Rule(1, 2, 2, 1, 0), 1, 4, 4)
        self.compare(Rule(1, 3, 1, 1, 1), 1, 3, 6)


if __name__ == "__main__":
    unittest.main()
