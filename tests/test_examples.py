"""The examples of the document, word for word, in the order of its sections."""

import doctest
import unittest

# Section 6 has no example of its own; the one of section 1 is about it. Sections 5 and 7 go on with its rule.
# Sections 10 and 11 have none either.
EXAMPLES = '''
1. Overview

    >>> from lapseseats.deciding import day, faults, most
    >>> from lapseseats.forms import choices, safe_grace, safe_lapse
    >>> from lapseseats.rules import Rule
    >>> rule = Rule(2, 3, 2, 5, 1)
    >>> most(rule, 9), faults(rule, 2), safe_lapse(rule), safe_grace(rule), len(day(rule, 3, "over"))
    (6, ('taken', 'twice'), 7, 1, 6)
    >>> choices(rule, 7)
    ((1, 7), (2, 4), (3, 3), (4, 2), (7, 1))

5. Plays

    >>> from lapseseats.days import Day
    >>> from lapseseats.plays import play, possible
    >>> some = Day.read("borrow 0; cut 0; pass; pass; pass; borrow 1; borrow 2")
    >>> told = play(rule, some)
    >>> told.using, told.kept, told.cut, told.met, told.peak, possible(rule, some, ("stop", 0))
    (((0, 0, 3), (1, 0, 0), (2, 1, 0)), ((1, 0), (2, 0)), (0,), ((5, 'twice'), (6, 'over'), (6, 'twice')), 3, False)

7. Forms

    >>> from lapseseats.forms import fine_beats, least_words, longest_alone, per_seat
    >>> per_seat(rule), fine_beats(rule, 6), fine_beats(rule.but("lapse", 4), 6), least_words(rule, 10), longest_alone(rule)
    (3, (1,), (1, 2), 4, 6)

8. Logs

    >>> from lapseseats.logs import calm, can_use, first_misfit, fits, surely_use
    >>> book = [(0, "borrow", 0), (1, "borrow", 1), (2, "word", 0), (5, "borrow", 2), (6, "back", 2)]
    >>> fits(rule, book), can_use(rule, book, 5), surely_use(rule, book, 1), surely_use(rule, book, 5), calm(rule, book, 5), first_misfit(rule, [(0, "word", 0)])
    (True, (0, 1, 2), (0,), (2,), False, 0)

9. Two sites

    >>> from lapseseats.splits import best_splits, unserved
    >>> unserved(4, 1, [(3, 1), (0, 4)]), best_splits(4, [(3, 1), (0, 4)])
    (2, (1, 2))

12. Desks

    >>> from lapseseats.desk import Desk
    >>> desk = Desk()
    >>> [desk.say(word) for word in ("rule 1 2 1 3 0", "borrow 0", "cut 0", "pass", "pass", "borrow 1", "using", "safe", "undo")]
    ['2', 'calm', 'calm', 'calm', 'calm', 'over twice', '0 1', '4', 'undone']
'''


class ExamplesTest(unittest.TestCase):
    def test_examples(self):
        test = doctest.DocTestParser().get_doctest(EXAMPLES, {}, "DOC.md", None, 0)
        told = doctest.DocTestRunner().run(test)
        self.assertEqual(told.attempted, 21)
        self.assertEqual(told.failed, 0)


if __name__ == "__main__":
    unittest.main()
