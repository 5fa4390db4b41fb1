"""What several tests need: values of all kinds, to be passed where something else is expected, and a slow house.

The slow house follows sections 4 and 8 of the document word by word, with ages that are counted one by one. Its
searches go through all days, so that they can tell whether what the package decides is so.
"""

from lapseseats.days import Day
from lapseseats.desk import Desk
from lapseseats.errors import InvalidFault
from lapseseats.live import Live
from lapseseats.plays import play
from lapseseats.rules import Rule


def used_live():
    """A live house with a deed that can be taken back, so that its length is not 0."""
    live = Live(Rule(1, 1, 1, 1))
    live.do(("borrow", 0))
    return live


def used_desk():
    desk = Desk()
    desk.say("borrow 0")
    return desk


# Objects that change, and others that are neither compared nor iterable. No test changes these.
OBJECTS = (
    Live(Rule(1, 1, 1, 1)),
    used_live(),
    used_live().trial(),
    Desk(),
    used_desk(),
    play(Rule(1, 1, 1, 1), Day()),
)

NO_INTEGERS = (
    True,
    False,
    None,
    "",
    "1",
    "seats",
    (),
    (1,),
    [],
    [1],
    [[1], (2, [None])],
    Rule(1, 1, 1, 1),
    Day(),
    Day([("pass",)]),
    InvalidFault(),
    *OBJECTS,
    [OBJECTS],
)

NO_STRINGS = (
    True,
    False,
    None,
    0,
    1,
    -7,
    10 ** 30,
    (),
    ("pass",),
    [],
    ["pass"],
    ["seats 1 lapse 1 beat 1 grace 1 late 0"],
    Rule(1, 1, 1, 1),
    Day(),
    Day([("pass",)]),
    *OBJECTS,
)

NO_SEQUENCES = (
    True,
    False,
    None,
    0,
    1,
    -1,
    "",
    "pass",
    Rule(1, 1, 1, 1),
    Day(),
    Day([("pass",)]),
    *OBJECTS,
)

NO_EVENTS = (
    *NO_INTEGERS,
    *NO_SEQUENCES,
    ("pass", 0),
    ("pass", "pass"),
    ["pass"],
    "borrow 0",
    ["borrow", 0],
    ("borrow",),
    ("borrow", 0, 0),
    ("borrow", -1),
    ("borrow", True),
    ("borrow", None),
    ("borrow", "0"),
    ("borrow", [0]),
    ("borrow", (0,)),
    ("cut", Rule(1, 1, 1, 1)),
    ("Borrow", 0),
    ("say", 0),
    ("", 0),
    (None, 0),
    (["borrow"], 0),
    (("borrow",), 0),
    (0, "borrow"),
    (0, 0),
    ("cut", 0.0),
    (((((((("pass",),),),),),),),),
    [[[[[[[["pass"]]]]]]]],
    -1,
    10 ** 30,
)

FAULTS = ("over", "taken", "twice", "waits")
USER_WORDS = ("borrow", "word", "back", "crash", "stop", "cut", "join")
LOG_WORDS = ("borrow", "word", "back")
PASS = ("pass",)


def start(rule):
    """How things stand at first: (user, seat, age) of those who use, (user, age) of each seat, users cut off."""
    return ((), (None,) * rule.seats, ())


def all_events(users):
    return [PASS, *[(word, user) for user in range(users) for word in USER_WORDS]]


def seat_of(user, kept):
    for seat, pair in enumerate(kept):
        if pair is not None and pair[0] == user:
            return seat
    return None


def with_age_0(state, user, seat):
    using, kept, cut = state
    others = [one for one in using if one[0] != user]
    return (
        tuple(sorted([*others, (user, seat, 0)])),
        (*kept[:seat], (user, 0), *kept[seat + 1:]),
        cut,
    )


def borrowed(rule, state, user):
    using, kept, cut = state
    if any(one[0] == user for one in using) or user in cut:
        return None
    seat = seat_of(user, kept)
    free = [at for at, pair in enumerate(kept) if pair is None]
    if seat is None and free:
        seat = min(free)
    if seat is None:
        return state, {"waits"} if len(using) < rule.seats else set()
    return with_age_0(state, user, seat), set()


def passed(rule, state):
    using, kept, cut = state
    for user, _, age in using:
        if age >= rule.grace + rule.late or user not in cut and age >= rule.beat + rule.late:
            return None
    using = tuple((user, seat, age + 1) for user, seat, age in using)
    kept = [None if pair is None else (pair[0], pair[1] + 1) for pair in kept]
    own = set()
    for seat, pair in enumerate(kept):
        if pair is not None and pair[1] == rule.lapse:
            kept[seat] = None
            if pair[0] not in cut and any((user, at) == (pair[0], seat) for user, at, _ in using):
                own = {"taken"}
    return (using, tuple(kept), cut), own


def acted(rule, state, event):
    """The state behind an event, and the faults of the event alone; None if it is not possible."""
    if event == PASS:
        return passed(rule, state)
    using, kept, cut = state
    word, user = event
    if word == "borrow":
        return borrowed(rule, state, user)
    if word in ("cut", "join"):
        if (user in cut) == (word == "cut"):
            return None
        other = (*cut, user) if word == "cut" else [one for one in cut if one != user]
        return (using, kept, tuple(sorted(other))), set()
    mine = [one for one in using if one[0] == user]
    others = tuple(one for one in using if one[0] != user)
    if not mine or word in ("word", "back") and user in cut or word == "stop" and mine[0][2] < rule.grace:
        return None
    seat = seat_of(user, kept)
    if word == "word" and seat is not None:
        return with_age_0(state, user, seat), set()
    if word == "back" and seat is not None:
        kept = (*kept[:seat], None, *kept[seat + 1:])
    return (others, kept, cut), set()


def step(rule, state, event):
    """The state behind an event, and the set of the faults that are met; None if it is not possible."""
    told = acted(rule, state, event)
    if told is None:
        return None
    state, met = told
    using = state[0]
    if len(using) > rule.seats:
        met = met | {"over"}
    seats = [seat for _, seat, _ in using]
    if any(seats.count(seat) > 1 for seat in seats):
        met = met | {"twice"}
    return state, met


def states_by_events(rule, users):
    """All states of all days with users below this one: a dict with the least number of events to each."""
    many = {start(rule): 0}
    queue = [start(rule)]
    for state in queue:
        for event in all_events(users):
            told = step(rule, state, event)
            if told is not None and told[0] not in many:
                many[told[0]] = many[state] + 1
                queue.append(told[0])
    return many


def least_by_search(rule, users, many):
    """For each fault that is met in some day the least number of events of such a day."""
    least = {}
    for state, ahead in many.items():
        for event in all_events(users):
            told = step(rule, state, event)
            for fault in told[1] if told is not None else ():
                least[fault] = min(least.get(fault, ahead + 1), ahead + 1)
    return least


def kept_by_search(rule, users, many):
    """The longest row of pass in a day, ahead of each of which a seat is kept for one user that does not use."""
    longest = 0
    for state in many:
        for user in range(users):
            now, passes = state, 0
            while now is not None and seat_of(user, now[1]) is not None and all(one[0] != user for one in now[0]):
                told = passed(rule, now)
                now = None if told is None else told[0]
                passes += now is not None
            longest = max(longest, passes)
    return longest


def heard(state, event):
    """Whether an event that is possible is heard and granted by the house, so that it is in the log."""
    kept = state[1]
    if event == PASS or event[0] not in LOG_WORDS:
        return False
    if event[0] == "borrow":
        return seat_of(event[1], kept) is not None or None in kept
    return seat_of(event[1], kept) is not None


def hidden(rule, users, states, barred=()):
    """All states that come about from some by events that are neither in the log nor a pass nor barred."""
    found = set(states)
    queue = list(found)
    while queue:
        state = queue.pop()
        for event in all_events(users):
            if event == PASS or event[0] in barred or heard(state, event):
                continue
            told = step(rule, state, event)
            if told is not None and told[0] not in found:
                found.add(told[0])
                queue.append(told[0])
    return found


def through(rule, users, states, event):
    """All states behind an event that happens in some of the states."""
    if event != PASS:
        states = [state for state in states if heard(state, event)]
    told = [step(rule, state, event) for state in states]
    return {one[0] for one in told if one is not None}


def log_events(log, upto):
    """The entries of a log and the pass between them, up to the end of a moment."""
    events, moment = [], 0
    for then, word, user in log:
        if then > upto:
            break
        events += [PASS] * (then - moment) + [(word, user)]
        moment = then
    return events + [PASS] * (upto - moment)


def states_with(rule, users, states, events):
    """All states directly behind the last of some events, with hidden events ahead of each of them."""
    for event in events:
        states = through(rule, users, hidden(rule, users, states), event)
    return states


def fits_by_search(rule, users, log):
    end = max([0, *[entry[0] for entry in log]])
    return bool(states_with(rule, users, {start(rule)}, log_events(log, end)))


def users_by_search(rule, users, log, moment):
    """All lots of users who use at the end of a moment, and all lots of those who do at the pass behind it."""
    end = max([moment, *[entry[0] for entry in log]])
    ahead = log_events(log, moment)
    rest = log_events(log, end)[len(ahead):]
    states = states_with(rule, users, {start(rule)}, ahead)

    def lot(state):
        return tuple(user for user, _, _ in state[0])

    def goes_on(state, events):
        return bool(states_with(rule, users, {state}, events))

    then = {lot(state) for state in hidden(rule, users, states, ("crash", "stop")) if goes_on(state, rest)}
    rest = rest or [PASS]
    later = {lot(state) for state in hidden(rule, users, states) if through(rule, users, {state}, PASS)
             and goes_on(state, rest)}
    return then, later
