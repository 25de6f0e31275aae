"""Whether a world keeps a saying, and where it breaks a plain row."""

from kindhall.grouping import grouped
from kindhall.rows import plain
from kindhall.worlds import bearing, pairs_tied, points_of, spot_of


def keeps(world, saying):
    """Whether the world keeps the saying."""
    # A breach may be an empty tuple, so only None tells that there is none.
    return all([breach(world, row) is None for row in plain(saying)])


def breach(world, row):
    """The least points at which the world breaks the plain row, None where it holds."""
    sort = row[0]
    if sort == "under":
        return under_breach(world, row[1], row[2])
    if sort == "sub":
        return sub_breach(world, row[1], row[2])
    if sort == "chain":
        return chain_breach(world, row[1], row[2], row[3])
    if sort == "mark":
        return mark_breach(world, row[1], row[2])
    return link_breach(world, row[1], row[2], row[3])


def under_breach(world, inner, outer):
    """The least point of the inner thought that is none of the outer one."""
    held = bearing(world, outer)
    return min([(point,) for point in points_of(world, inner) if not held[point]], default=None)


def sub_breach(world, narrow, wide):
    """The least two points that the narrow tie ties and the wide one does not."""
    kept = pairs_tied(world, wide)
    return min([pair for pair in pairs_tied(world, narrow) if pair not in kept], default=None)


def chain_breach(world, first, second, whole):
    """The least three points that the first and the second tie lead along without the whole one."""
    onward = grouped(list(pairs_tied(world, second)))
    kept = pairs_tied(world, whole)
    broken = [
        (start, middle, end)
        for start, middle in pairs_tied(world, first)
        for end in onward.get(middle, [])
        if (start, end) not in kept
    ]
    return min(broken, default=None)


def mark_breach(world, thing, thought):
    """The thing's spot where it is no point of the thought; an empty tuple where it has no spot."""
    spot = spot_of(world, thing)
    if spot is None:
        return ()
    if bearing(world, thought)[spot]:
        return None
    return (spot,)


def link_breach(world, thing, tie, other):
    """The two things' spots where the tie does not tie them; an empty tuple where one of them has no spot."""
    start = spot_of(world, thing)
    end = spot_of(world, other)
    if start is None or end is None:
        return ()
    if (start, end) in pairs_tied(world, tie):
        return None
    return (start, end)
