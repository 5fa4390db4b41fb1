"""Two sites that share seats: how they are best split, so that each site has its own part."""


def lacking(many, seats):
    """How many of those who want a seat get none."""
    return max(0, many - seats)


def unserved(seats, here, wishes):
    """The greatest number, of all pairs of wishes, of those who get none if the one site has so many seats here."""
    return max([lacking(one, here) + lacking(other, seats - here) for one, other in wishes])


def best_splits(seats, wishes):
    """The ascending tuple of all numbers of seats at the one site with which the fewest get none."""
    lacks = [unserved(seats, here, wishes) for here in range(seats + 1)]
    least = min(lacks)
    return tuple([here for here, lack in enumerate(lacks) if lack == least])
