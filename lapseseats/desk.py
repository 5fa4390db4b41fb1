"""Desks: a house that is led by commands, each of which is answered by a text."""

from lapseseats.basics import is_number_text
from lapseseats.days import read_event
from lapseseats.deciding import faults, most
from lapseseats.errors import InvalidCommand
from lapseseats.forms import safe_lapse
from lapseseats.live import Live
from lapseseats.rules import Rule

MANY_USERS = 60
MOST_DIGITS = 2


def joined(values, otherwise):
    """The values, separated by spaces, or another text if there are none."""
    return " ".join([str(value) for value in values]) if values else otherwise


def follow_rule(live, numbers):
    """A new house with a rule: how many can use at once at most."""
    live.follow(Rule(*numbers))
    return str(most(live.rule, MANY_USERS))


def tell_using(live, numbers):
    """The users who use."""
    return joined([user for user, seat, age in live.played.using], "none")


def tell_faults(live, numbers):
    """The faults that are met in some day with so many users."""
    users = numbers[0]
    if users < 1:
        raise InvalidCommand()
    return joined(faults(live.rule, users), "none")


def tell_safe(live, numbers):
    """The least lapse that is safe."""
    return str(safe_lapse(live.rule))


def take_back(live, numbers):
    """Takes back the last rule or event."""
    return "undone" if live.undo() else "nothing"


# What each command does that is no event, and how many numbers are behind its word.
ACTIONS = {
    "rule": follow_rule,
    "using": tell_using,
    "faults": tell_faults,
    "safe": tell_safe,
    "undo": take_back,
}
MANY_NUMBERS = {"rule": 5, "using": 0, "faults": 1, "safe": 0, "undo": 0}


def read_command(command):
    """The word of a command that is no event, and the numbers behind it."""
    word, *parts = command.split(" ")
    if word not in ACTIONS or len(parts) != MANY_NUMBERS[word]:
        raise InvalidCommand()
    if not all([is_number_text(part, MOST_DIGITS) for part in parts]):
        raise InvalidCommand()
    return word, [int(part) for part in parts]


class Desk:
    """A desk, which leads a live house; the last rules and events can be taken back."""

    def __init__(self):
        self.live = Live(Rule(1, 1, 1, 1))

    def __len__(self):
        # Each rule and each event is one deed of the live house, which a new rule does not end.
        return len(self.live)

    def say(self, command):
        """Does a command (any value); returns a text."""
        if not isinstance(command, str):
            raise InvalidCommand()
        event = read_event(command)
        if event is not None:
            return joined(self.live.do(event), "calm")
        word, numbers = read_command(command)
        action = ACTIONS[word]
        return action(self.live, numbers)
