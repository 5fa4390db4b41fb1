"""What can happen in some day, how many can use at once in it, and how short it can be."""

from lapseseats.days import PASS, Day
from lapseseats.errors import InvalidFault
from lapseseats.plays import FAULTS


def most_at_one_seat(rule):
    """How many can have one seat at once at most."""
    # Their last answers are at least the lapse apart, and none lies back by more than the grace and late.
    return (rule.grace + rule.late) // rule.lapse + 1


def can_share(rule):
    """Whether a seat can be given up ahead of the user that uses it, so that another one has it, too."""
    return most_at_one_seat(rule) > 1


def can_be_silent(rule):
    """Whether a user that is not cut off need not say a word for the lapse."""
    return rule.lapse <= rule.beat + rule.late


def most_of_all(rule):
    """The greatest number of users who use at once in some day, however many there are."""
    return rule.seats * most_at_one_seat(rule)


def most(rule, users):
    """The greatest number of users below this one who use at once in some day."""
    return min(users, most_of_all(rule))


def silent_borrow(rule):
    """The events by which user 0 borrows and then says no word for the lapse."""
    if can_be_silent(rule):
        return [("borrow", 0)]
    return [("borrow", 0), ("cut", 0)]


# A plan is a shortest day: the events ahead of all pass, how many pass there are, and the events behind
# them. As the pass are only counted, a plan is short, however long the lapse is.


def over_plan(rule, users):
    """A plan by which more use than there are seats, or None."""
    if users <= rule.seats or not can_share(rule):
        return None
    others = range(1, rule.seats + 1)
    return (silent_borrow(rule), rule.lapse, [("borrow", user) for user in others])


def taken_plan(rule, users):
    """A plan by which a seat is taken from user 0, or None."""
    # One user is enough, and there is always one.
    if not can_share(rule) or not can_be_silent(rule):
        return None
    return ([("borrow", 0)], rule.lapse, [])


def twice_plan(rule, users):
    """A plan by which two have the seat 0, or None."""
    if users < 2 or not can_share(rule):
        return None
    return (silent_borrow(rule), rule.lapse, [("borrow", 1)])


def waits_plan(rule, users):
    """A plan by which the seat of user 0 stands empty when another one is sent away, or None."""
    if users <= rule.seats:
        return None
    borrows = [("borrow", user) for user in range(rule.seats)]
    return ([*borrows, ("crash", 0), ("borrow", rule.seats)], 0, [])


PLANS = {
    "over": over_plan,
    "taken": taken_plan,
    "twice": twice_plan,
    "waits": waits_plan,
}


def plan(rule, users, fault):
    """A plan of a day that meets a fault (any value), or None."""
    if fault not in FAULTS:
        raise InvalidFault()
    make = PLANS[fault]
    return make(rule, users)


def happens(rule, users, fault):
    """Whether a fault is met in some day."""
    return plan(rule, users, fault) is not None


def faults(rule, users):
    """The ascending tuple of the faults that are met in some day."""
    return tuple([fault for fault in FAULTS if happens(rule, users, fault)])


def least_events(rule, users, fault):
    """The least number of events of a day that meets a fault, or None."""
    found = plan(rule, users, fault)
    if found is None:
        return None
    ahead, passes, behind = found
    return len(ahead) + passes + len(behind)


def day(rule, users, fault):
    """A shortest day that meets a fault, or None."""
    found = plan(rule, users, fault)
    if found is None:
        return None
    ahead, passes, behind = found
    return Day(ahead + [PASS] * passes + behind)


def longest_kept(rule):
    """The greatest number of pass in a row ahead of each of which a seat is kept for a user that does not use."""
    # A user crashes as soon as it has its answer: then the house hears nothing for the whole lapse.
    return rule.lapse
