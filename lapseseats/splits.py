"""Two sites that share seats: how they are best split, so that each site has its own part."""


def lacking(many, seats):
    """How many of those who want a seat get none."""
    return max(0, many - seats)


def unserved(seats, here, wishes):
    """The greatest number, of all pairs of wishes, of those who get none if the one site has so many seats here."""
    return max([lacking(one, here) + lacking(other, seats - here) for one, other in wishes])


def least_unserved(seats, most_here, most_there, most_together):
    """How many get none, of the pair that lacks most, however the seats are split."""
    # What the sites lack at most, each by itself, has the same sum with each split: one lacks at least half of it.
    half = (most_here + most_there - seats + 1) // 2
    return max(0, most_together - seats, half)


def best_splits(seats, wishes):
    """The ascending tuple of all numbers of seats at the one site with which the fewest get none."""
    most_here = max([one for one, other in wishes])
    most_there = max([other for one, other in wishes])
    most_together = max([one + other for one, other in wishes])
    least = least_unserved(seats, most_here, most_there, most_together)
    # The best splits lie side by side: with fewer seats here, or fewer there, one site alone would lack more.
    fewest = max(0, most_here - least)
    greatest = seats - max(0, most_there - least)
    return tuple(range(fewest, greatest + 1))
