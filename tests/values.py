"""Values of all kinds, to be passed where something else is expected."""

from lapseseats.days import Day
from lapseseats.errors import InvalidFault
from lapseseats.rules import Rule

NO_INTEGERS = (
    True,
    False,
    None,
    "",
    "1",
    "seats",
    (),
    (1,),
    [],
    [1],
    [[1], (2, [None])],
    Rule(1, 1, 1, 1),
    Day(),
    Day([("pass",)]),
    InvalidFault(),
)

NO_STRINGS = (
    True,
    False,
    None,
    0,
    1,
    -7,
    10 ** 30,
    (),
    ("pass",),
    [],
    ["pass"],
    ["seats 1 lapse 1 beat 1 grace 1 late 0"],
    Rule(1, 1, 1, 1),
    Day(),
    Day([("pass",)]),
)

NO_SEQUENCES = (
    True,
    False,
    None,
    0,
    1,
    -1,
    "",
    "pass",
    Rule(1, 1, 1, 1),
    Day(),
    Day([("pass",)]),
)
