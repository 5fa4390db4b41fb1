"""Which numbers a rule should have: lapses, graces and beats that are safe, and how few words are needed."""

from lapseseats.deciding import happens, most_at_one_seat


def per_seat(rule):
    """How many can have one seat at once at most."""
    return most_at_one_seat(rule)


def longest_alone(rule):
    """The greatest number of pass for which a user can use without an answer."""
    return rule.grace + rule.late


def safe_lapse(rule):
    """The least lapse with which more than there are seats never use."""
    return longest_alone(rule) + 1


def safe_grace(rule):
    """The greatest grace with which more than there are seats never use, or None."""
    grace = rule.lapse - rule.late - 1
    return grace if grace >= 1 else None


def fine_beats(rule, longest):
    """The ascending tuple of the beats up to the longest one with which no seat is taken from a user."""
    beats = range(1, longest + 1)
    # Whether a seat is taken does not depend on how many users there are.
    return tuple([beat for beat in beats if not happens(rule.but("beat", beat), 1, "taken")])


def choices(rule, longest):
    """The ascending tuple of the pairs (lapse, per seat), up to the longest lapse, that are beaten by none."""
    found = []
    for lapse in range(1, longest + 1):
        many = per_seat(rule.but("lapse", lapse))
        # A greater lapse never has more per seat: so the last one that was found has the fewest so far.
        if not found or many < found[-1][1]:
            found.append((lapse, many))
    return tuple(found)


def longest_silence(rule):
    """The greatest number of pass without a word for a user that is not cut off and whose seat stays kept."""
    return min(rule.beat + rule.late, longest_alone(rule), rule.lapse - 1)


def least_words(rule, span):
    """The least number of words by which a user keeps its seat for so many pass, or None."""
    silence = longest_silence(rule)
    if span == 0:
        return 0
    if silence == 0:
        return None
    # No word is needed behind the last pass.
    return (span - 1) // silence
