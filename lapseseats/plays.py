"""Plays of days: what happens at each event, how things stand behind it, and which faults it meets."""

from lapseseats.days import PASS, is_event
from lapseseats.errors import InvalidDay

FAULTS = ("over", "taken", "twice", "waits")


class House:
    """How things stand with a house and its users; each event that happens changes it."""

    def __init__(self, rule):
        self.rule = rule
        # An age is how far the moment of an answer lies back: so a pass need not touch every age.
        self.moment = 0
        # For each user that uses: its seat, and the moment of the last answer.
        self.using = {}
        # For each seat: None, or its user, and the moment of the last answer.
        self.kept = [None] * rule.seats
        self.cut = {}
        self.met = []
        self.peak = 0
        self.many_events = 0


def does_use(house, user):
    """Whether a user uses a seat: then it can crash."""
    return user in house.using


def is_cut(house, user):
    """Whether a user is cut off: then it can join."""
    return user in house.cut


def is_not_cut(house, user):
    """Whether a user is not cut off: then it can be."""
    return user not in house.cut


def can_borrow(house, user):
    """Whether a user can borrow, also if it is sent away then."""
    return user not in house.using and user not in house.cut


def can_speak(house, user):
    """Whether a user can say a word, or give back."""
    return user in house.using and user not in house.cut


def can_stop(house, user):
    """Whether the clock of a user may tell it to stop."""
    return user in house.using and age_of(house, user) >= house.rule.grace


def can_pass(house):
    """Whether no clock has surely told its user to stop, or to say a word."""
    rule = house.rule
    for user in house.using:
        age = age_of(house, user)
        if age >= rule.grace + rule.late:
            return False
        if age >= rule.beat + rule.late and user not in house.cut:
            return False
    return True


def age_of(house, user):
    """How many moments ago a user that uses had its last answer."""
    return house.moment - house.using[user][1]


def seat_kept_for(house, user):
    """The seat that the house keeps for a user, or None."""
    for seat, held in enumerate(house.kept):
        if held is not None and held[0] == user:
            return seat
    return None


def seat_to_lend(house, user):
    """The seat that a user has if it borrows, or None if it is sent away."""
    seat = seat_kept_for(house, user)
    if seat is None and None in house.kept:
        return house.kept.index(None)
    return seat


def answer(house, user, seat):
    """The user has an answer of the house, for its seat: both ages are 0."""
    house.using[user] = (seat, house.moment)
    house.kept[seat] = (user, house.moment)


def leave(house, user):
    """The user does not use any more, and the house does not know."""
    del house.using[user]
    return ()


def borrow(house, user):
    """The user has a seat, or is sent away."""
    seat = seat_to_lend(house, user)
    if seat is not None:
        answer(house, user, seat)
        return ()
    if len(house.using) < house.rule.seats:
        return ("waits",)
    return ()


def say_word(house, user):
    """The user has an answer, or learns that its seat was given up."""
    # Who uses a seat cannot borrow: so the house keeps this seat for it, or none.
    seat = seat_kept_for(house, user)
    if seat is None:
        return leave(house, user)
    answer(house, user, seat)
    return ()


def give_back(house, user):
    """The user does not use any more, and the house knows."""
    seat = seat_kept_for(house, user)
    if seat is not None:
        house.kept[seat] = None
    return leave(house, user)


def cut_off(house, user):
    """The user is cut off from the house."""
    house.cut[user] = True
    return ()


def join_again(house, user):
    """The user is not cut off any more."""
    del house.cut[user]
    return ()


def seats_given_up(house):
    """The seats whose age at the house is the lapse."""
    lapse = house.rule.lapse
    return [seat for seat, held in enumerate(house.kept) if held is not None and house.moment - held[1] == lapse]


def pass_by(house):
    """The next moment comes, and with it seats are given up."""
    house.moment += 1
    faults = ()
    for seat in seats_given_up(house):
        if can_speak(house, house.kept[seat][0]):
            faults = ("taken",)
        house.kept[seat] = None
    return faults


TESTS = {
    "borrow": can_borrow,
    "word": can_speak,
    "back": can_speak,
    "crash": does_use,
    "stop": can_stop,
    "cut": is_not_cut,
    "join": is_cut,
}

# Each deed returns the faults that are met by the event alone, however things stand behind it.
DEEDS = {
    "borrow": borrow,
    "word": say_word,
    "back": give_back,
    "crash": leave,
    "stop": leave,
    "cut": cut_off,
    "join": join_again,
}


def is_possible(house, event):
    """Whether an event is possible, as things stand."""
    if event == PASS:
        return can_pass(house)
    word, user = event
    test = TESTS[word]
    return test(house, user)


def lasting_faults(house):
    """The faults that each event meets behind which things stand so."""
    faults = []
    if len(house.using) > house.rule.seats:
        faults.append("over")
    seats = [seat for seat, then in house.using.values()]
    if len(set(seats)) < len(seats):
        faults.append("twice")
    return faults


def deed_faults(house, event):
    """Does what a possible event does; the faults that are met by the event alone."""
    if event == PASS:
        return pass_by(house)
    word, user = event
    deed = DEEDS[word]
    return deed(house, user)


def happen(house, event):
    """A possible event happens; the ascending tuple of the faults that are met by it."""
    own = deed_faults(house, event)
    faults = tuple(sorted([*own, *lasting_faults(house)]))
    house.met.extend([(house.many_events, fault) for fault in faults])
    house.many_events += 1
    house.peak = max(house.peak, len(house.using))
    return faults


def house_behind(rule, day):
    """The house behind all events of a day."""
    house = House(rule)
    for at, event in enumerate(day.events):
        if not is_possible(house, event):
            raise InvalidDay(at)
        happen(house, event)
    return house


class Played:
    """What a play tells of a day; it never changes."""

    def __init__(self, house):
        now = house.moment
        self.using = tuple(sorted([(user, seat, now - then) for user, (seat, then) in house.using.items()]))
        self.kept = tuple([None if held is None else (held[0], now - held[1]) for held in house.kept])
        self.cut = tuple(sorted(list(house.cut)))
        self.moment = now
        self.met = tuple(house.met)
        self.peak = house.peak


def play(rule, day):
    """What happens in a day, as a Played."""
    return Played(house_behind(rule, day))


def possible(rule, day, event):
    """Whether any value is an event that is possible behind a day."""
    house = house_behind(rule, day)
    return is_event(event) and is_possible(house, event)
