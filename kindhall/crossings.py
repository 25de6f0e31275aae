"""Crossings of sets: lists that have a number of each set, and none that could be left out for that."""


def crossings(sets):
    """The sorted list of the crossings of the sets."""
    told = [[]]
    for numbers in sets:
        told = crossed(told, numbers)
    return sorted(told)


def crossed(told, numbers):
    """The crossings of some sets and one more, out of the crossings of those sets."""
    met = [crossing for crossing in told if share(crossing, numbers)]
    # Of two crossings none has all numbers of the other, so a longer one can only have all those of a met one.
    longer = [sorted(crossing + [number]) for crossing in told if crossing not in met for number in numbers]
    return met + [crossing for crossing in longer if not any([has_all(crossing, one) for one in met])]


def share(one, other):
    """Whether two lists have a number in common."""
    return any([number in other for number in one])


def has_all(one, other):
    """Whether the first list has all numbers of the other."""
    return all([number in one for number in other])
