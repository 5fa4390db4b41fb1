"""Which numbers a rule should have: lapses, graces and beats that are safe, and how few words are needed."""

from lapseseats.deciding import can_share, most_at_one_seat


def per_seat(rule):
    """How many can have one seat at once at most."""
    return most_at_one_seat(rule)


def longest_alone(rule):
    """The greatest number of pass for which a user can use without an answer."""
    return rule.grace + rule.late


def safe_lapse(rule):
    """The least lapse with which more than there are seats never use."""
    return longest_alone(rule) + 1


def safe_grace(rule):
    """The greatest grace with which more than there are seats never use, or None."""
    grace = rule.lapse - rule.late - 1
    return grace if grace >= 1 else None


def fine_beats(rule, longest):
    """The ascending tuple of the beats up to the longest one with which no seat is taken from a user."""
    if can_share(rule):
        # A user must say a word ahead of the lapse, even if its clock is late.
        longest = min(longest, rule.lapse - rule.late - 1)
    return tuple(range(1, longest + 1))


def choices(rule, longest):
    """The ascending tuple of the pairs (lapse, per seat), up to the longest lapse, that are beaten by none."""
    found = []
    lapse = 1
    while lapse <= longest:
        many = per_seat(rule.but("lapse", lapse))
        found.append((lapse, many))
        if many == 1:
            break
        # The next one with fewer is the least lapse of which many - 1 do not fit into the longest time alone.
        lapse = longest_alone(rule) // (many - 1) + 1
    return tuple(found)


def longest_silence(rule):
    """The greatest number of pass without a word for a user that is not cut off and whose seat stays kept."""
    return min(rule.beat + rule.late, longest_alone(rule), rule.lapse - 1)


def least_words(rule, span):
    """The least number of words by which a user keeps its seat for so many pass, or None."""
    silence = longest_silence(rule)
    if span == 0:
        return 0
    if silence == 0:
        return None
    # No word is needed behind the last pass.
    return (span - 1) // silence
