"""Days of a house: events, one behind the other."""

from lapseseats.basics import is_integer_from, is_number_text, is_sequence
from lapseseats.errors import InvalidDay, InvalidText

PASS = ("pass",)
USER_WORDS = ("borrow", "word", "back", "crash", "stop", "cut", "join")
MOST_DIGITS = 2


def is_event(value):
    """Whether any value is an event."""
    if not isinstance(value, tuple):
        return False
    if len(value) != 2:
        return value == PASS
    word, user = value
    return word in USER_WORDS and is_integer_from(user, 0)


def first_wrong(values):
    """The index of the first of any values that is no event, or None."""
    for at, value in enumerate(values):
        if not is_event(value):
            return at
    return None


def event_text(event):
    """The parts of an event, separated by spaces."""
    return " ".join([str(part) for part in event])


def read_event(text):
    """The event with a text, or None."""
    if text == "pass":
        return PASS
    parts = text.split(" ")
    if len(parts) != 2:
        return None
    word, user = parts
    if word not in USER_WORDS or not is_number_text(user, MOST_DIGITS):
        return None
    return (word, int(user))


class Day:
    """A day, which never changes; it is equal to days with the same events."""

    def __init__(self, events=()):
        if not is_sequence(events):
            raise InvalidDay(0)
        at = first_wrong(events)
        if at is not None:
            raise InvalidDay(at)
        self.events = tuple(events)

    @classmethod
    def read(cls, text):
        """The day with a text, as str gives it."""
        if not isinstance(text, str):
            raise InvalidText(0)
        # An empty text has no part, but split would give one.
        parts = text.split("; ") if text else []
        events = []
        for at, part in enumerate(parts):
            event = read_event(part)
            if event is None:
                raise InvalidText(at)
            events.append(event)
        return cls(events)

    def __len__(self):
        return len(self.events)

    def __getitem__(self, at):
        if not 0 <= at < len(self.events):
            raise InvalidDay(at)
        return self.events[at]

    # Having an index, days would be iterable without this.
    def __iter__(self):
        raise TypeError("a day is not iterable")

    def __add__(self, other):
        if not isinstance(other, Day):
            return NotImplemented
        return Day(self.events + other.events)

    def __eq__(self, other):
        return isinstance(other, Day) and self.events == other.events

    def __str__(self):
        return "; ".join([event_text(event) for event in self.events])
