"""Which points of a world lead to which points of a world."""

from kindhall.grouping import grouped


def led(world, other):
    """The sorted pairs of a point of the world and a point of the other one that it leads to."""
    apart = partings(world, other)
    return [
        (start, end)
        for start in range(len(world[0]))
        for end in range(len(other[0]))
        if (start, end) not in apart
    ]


def partings(world, other):
    """A dict of the pairs of which the first point does not lead to the second, each with a reason.

    The reason of (x, y) is ("kind", A), which x is marked with and y is not; or ("some", r, z): x is tied by r to
    z, and z leads to no point that y is tied to by r. The pairs of z and those points stand ahead of it in the dict.
    """
    apart = unlike_marks(world, other)
    part_by_lacks(world, other, apart)
    part_by_others(world, other, apart)
    return apart


def unlike_marks(world, other):
    """The pairs that part since the first point is marked with a kind that the second is not marked with."""
    apart = {}
    for start, kinds in enumerate(world[0]):
        for end, others in enumerate(other[0]):
            lacking = [kind for kind in kinds if kind not in others]
            if lacking:
                apart[(start, end)] = ("kind", lacking[0])
    return apart


def part_by_lacks(world, other, apart):
    """Add the pairs that part since the second point has no tie at all of a name that the first has."""
    borne = {(start, tie): True for start, tie, end in other[1]}
    for start, tie, middle in world[1]:
        for end in range(len(other[0])):
            if (end, tie) not in borne:
                apart.setdefault((start, end), ("some", tie, middle))


def part_by_others(world, other, apart):
    """Add the pairs that part since others do, until there are no more."""
    heads = grouped([((tie, end), start) for start, tie, end in world[1]])
    backward = grouped([(end, (start, tie)) for start, tie, end in other[1]])
    ends = grouped([((start, tie), end) for start, tie, end in other[1]])
    parted = {}
    waiting = list(apart)
    at = 0
    while at < len(waiting):
        middle, end = waiting[at]
        at += 1
        for start, tie in backward.get(end, []):
            # Each pair waits once, so as soon as this many came by, no end of the tie is left for the middle.
            key = (middle, start, tie)
            parted[key] = parted.get(key, 0) + 1
            if parted[key] == len(ends[(start, tie)]):
                for head in heads.get((tie, middle), []):
                    if (head, start) not in apart:
                        apart[(head, start)] = ("some", tie, middle)
                        waiting.append((head, start))
