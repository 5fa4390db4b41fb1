"""Logs of a house: whether they can be right, and who can use, or surely uses, at a moment."""

from lapseseats.basics import is_integer_from, is_sequence
from lapseseats.errors import InvalidLog
from lapseseats.forms import longest_alone

WORDS = ("borrow", "word", "back")


def is_entry(value):
    """Whether any value is an entry of a log."""
    if not isinstance(value, tuple) or len(value) != 3:
        return False
    moment, word, user = value
    return is_integer_from(moment, 0) and word in WORDS and is_integer_from(user, 0)


def check(log):
    """Raises an error if any value is no log."""
    if not is_sequence(log):
        raise InvalidLog(0)
    earliest = 0
    for at, value in enumerate(log):
        if not is_entry(value) or value[0] < earliest:
            raise InvalidLog(at)
        earliest = value[0]


def still_kept(rule, kept, moment):
    """Of the users with a kept seat, and the moments of their last answers, those left at a moment."""
    return {user: then for user, then in kept.items() if moment - then < rule.lapse}


def is_granted(rule, kept, entry):
    """Whether the house can hear and grant an entry, with such seats kept at its moment."""
    moment, word, user = entry
    if word == "borrow":
        # A user that still uses can have crashed.
        return user in kept or len(kept) < rule.seats
    # A user that was cut off meanwhile said no word, but may have used all the time.
    return user in kept and moment - kept[user] <= longest_alone(rule)


def first_misfit(rule, log):
    """The index of the first entry up to which a log does not fit, or None."""
    check(log)
    kept = {}
    for at, entry in enumerate(log):
        moment, word, user = entry
        kept = still_kept(rule, kept, moment)
        if not is_granted(rule, kept, entry):
            return at
        if word == "back":
            del kept[user]
        else:
            kept[user] = moment
    return None


def fits(rule, log):
    """Whether in some day the house hears and grants just what is in a log."""
    return first_misfit(rule, log) is None


def can_use(rule, log, moment):
    """The ascending tuple of the users who use at the end of a moment in some day with a log."""
    check(log)
    last = {user: (then, word) for then, word, user in log if then <= moment}
    longest = longest_alone(rule)
    return tuple(sorted([user for user, (then, word) in last.items() if word != "back" and moment - then <= longest]))


def surely_use(rule, log, moment):
    """The ascending tuple of the users who use from the end of a moment to the next pass in all days with a log."""
    check(log)
    coming = {}
    for then, word, user in log:
        if then > moment and user not in coming:
            coming[user] = word
    # Who speaks later has used all the time; anybody else can crash ahead of the next pass.
    return tuple(sorted([user for user, word in coming.items() if word != "borrow"]))


def calm(rule, log, moment):
    """Whether at most as many as there are seats use at the end of a moment in all days with a log."""
    # All who can use may do so at once.
    return len(can_use(rule, log, moment)) <= rule.seats
