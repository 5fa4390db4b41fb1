"""Comparing rules: which of them are no worse than others, and which are beaten by none."""

from lapseseats.deciding import happens, longest_kept, most_of_all


def no_more(p, q):
    """Whether, for each number of users, at most as many can use at once by the rule p as by q."""
    # Few users can all use at once, by any rule: so it depends on what is most with a great many.
    return most_of_all(p) <= most_of_all(q)


def drawbacks(rule):
    """What rules are compared by: three integers, each of which is better if it is less."""
    beyond = most_of_all(rule) - rule.seats
    # Whether a seat is taken does not depend on how many users there are.
    return (beyond, longest_kept(rule), int(happens(rule, 1, "taken")))


def is_better(own, other):
    """Whether the drawbacks of a rule are nowhere greater than other ones, and somewhere less."""
    return own != other and all([mine <= its for mine, its in zip(own, other)])


def beats(p, q):
    """Whether the rule p is no worse than q in all that rules are compared by, and better in one."""
    return is_better(drawbacks(p), drawbacks(q))


def best_of(rules):
    """The ascending tuple of the indexes of the rules that no other one of them beats."""
    found = [drawbacks(rule) for rule in rules]
    return tuple([at for at, own in enumerate(found) if not any([is_better(other, own) for other in found])])
