"""Rules of a house: how many seats it has, and how long it waits."""

from lapseseats.basics import is_integer_from, is_number_text
from lapseseats.errors import InvalidRule, InvalidText

WORDS = ("seats", "lapse", "beat", "grace", "late")
# A text has each of the five words with its number behind it.
TEXT_LENGTH = 10
MOST_DIGITS = 7


def is_number_for(word, number):
    """Whether any value is a number that a rule can have under one of the five words."""
    least = 0 if word == "late" else 1
    return is_integer_from(number, least)


def is_right_at(at, part):
    """Whether a part of a text can stand at this index below TEXT_LENGTH."""
    if at & 1:
        return is_number_text(part, MOST_DIGITS)
    return part == WORDS[at // 2]


def first_wrong(parts):
    """The index from which on the parts of a text are not those of a rule, or None."""
    for at, part in enumerate(parts[:TEXT_LENGTH]):
        if not is_right_at(at, part):
            return at
    if len(parts) == TEXT_LENGTH:
        return None
    return min(len(parts), TEXT_LENGTH)


class Rule:
    """A rule, which never changes; it is equal to rules with the same numbers."""

    def __init__(self, seats, lapse, beat, grace, late=0):
        for word, number in zip(WORDS, (seats, lapse, beat, grace, late)):
            if not is_number_for(word, number):
                raise InvalidRule(word)
        self.seats = seats
        self.lapse = lapse
        self.beat = beat
        self.grace = grace
        self.late = late

    @classmethod
    def read(cls, text):
        """The rule with a text, as str gives it."""
        if not isinstance(text, str):
            raise InvalidText(0)
        parts = text.split(" ")
        at = first_wrong(parts)
        if at is not None:
            raise InvalidText(at)
        seats, lapse, beat, grace, late = [int(part) for part in parts[1::2]]
        return cls(seats, lapse, beat, grace, late)

    def but(self, word, number):
        """The rule with another number under one of the five words."""
        if word not in WORDS or not is_number_for(word, number):
            raise InvalidRule(word)
        own = (self.seats, self.lapse, self.beat, self.grace, self.late)
        numbers = [number if name == word else old for name, old in zip(WORDS, own)]
        return Rule(*numbers)

    def __eq__(self, other):
        return (
            isinstance(other, Rule)
            and self.seats == other.seats
            and self.lapse == other.lapse
            and self.beat == other.beat
            and self.grace == other.grace
            and self.late == other.late
        )

    def __str__(self):
        return f"seats {self.seats} lapse {self.lapse} beat {self.beat} grace {self.grace} late {self.late}"
