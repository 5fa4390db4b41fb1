"""Live houses: days that go on, with deeds that can be taken back."""

from lapseseats.basics import is_sequence
from lapseseats.days import Day, is_event
from lapseseats.errors import Refused
from lapseseats.plays import Played, happen, house_behind, is_possible, play, possible


class Stand:
    """How things stand with a live house, and what can be taken back; it never changes."""

    def __init__(self, live):
        self.rule = live.rule
        self.day = live.day
        self.played = live.played
        self.past = live.past


class Trial:
    """A context manager: when its block is left, a live house is as it was when the block was entered."""

    def __init__(self, live):
        self.live = live
        self.ahead = None

    def __enter__(self):
        if self.ahead is not None:
            raise RuntimeError("a trial is entered once")
        self.ahead = Stand(self.live)
        return self.live

    def __exit__(self, kind, value, trace):
        self.live.rule = self.ahead.rule
        self.live.day = self.ahead.day
        self.live.played = self.ahead.played
        self.live.past = self.ahead.past


class Live:
    """A day of a house that goes on: each deed happens at once, and can be taken back."""

    def __init__(self, rule):
        self.rule = rule
        self.day = Day()
        self.played = play(rule, self.day)
        # How things stood ahead of each deed. As a tuple it can be kept, whatever comes later.
        self.past = ()

    def __len__(self):
        return len(self.past)

    def _stand_anew(self, rule, day, played):
        """A deed: things stand like this from now on."""
        self.past = (*self.past, Stand(self))
        self.rule = rule
        self.day = day
        self.played = played

    def do(self, event):
        """The event happens; returns the ascending tuple of the faults that are met by it."""
        if not possible(self.rule, self.day, event):
            raise Refused(len(self.day))
        return self.several((event,))[0]

    def several(self, events):
        """All events happen, or none; returns the tuple of what each returned."""
        if not is_sequence(events):
            raise Refused(0)
        house = house_behind(self.rule, self.day)
        told = []
        for at, event in enumerate(events):
            if not is_event(event) or not is_possible(house, event):
                raise Refused(at)
            told.append(happen(house, event))
        if told:
            self._stand_anew(self.rule, self.day + Day(events), Played(house))
        return tuple(told)

    def follow(self, rule):
        """Another rule, and a new day."""
        day = Day()
        self._stand_anew(rule, day, play(rule, day))

    def undo(self):
        """Takes back the last deed; returns whether there was one."""
        if not self.past:
            return False
        ahead = self.past[-1]
        self.rule = ahead.rule
        self.day = ahead.day
        self.played = ahead.played
        self.past = ahead.past
        return True

    def trial(self):
        """A new context manager, whose block leaves nothing behind."""
        return Trial(self)

    def within(self, work):
        """Calls the work with this live house in such a block; returns what it returns."""
        with Trial(self):
            return work(self)
