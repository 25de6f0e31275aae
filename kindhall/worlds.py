"""The points of a thought in a world, and the ties and spots of a world."""


def points_of(world, thought):
    """The points of a thought in a world, sorted."""
    return [point for point, borne in enumerate(bearing(world, thought)) if borne]


def bearing(world, thought):
    """For each point of the world, whether it is a point of the thought."""
    marks = world[0]
    sort = thought[0]
    if sort == "any":
        return [True] * len(marks)
    if sort == "none":
        return [False] * len(marks)
    if sort == "kind":
        return [thought[1] in kinds for kinds in marks]
    if sort == "both":
        left = bearing(world, thought[1])
        right = bearing(world, thought[2])
        return [one and other for one, other in zip(left, right)]
    return tied_to(world, thought[1], bearing(world, thought[2]))


def tied_to(world, tie, ends):
    """For each point of the world, whether it is tied by the tie to a point that is marked in ends."""
    told = [False] * len(world[0])
    for start, name, end in world[1]:
        if name == tie and ends[end]:
            told[start] = True
    return told


def pairs_tied(world, tie):
    """The pairs of points that are tied by the tie, as the keys of a dict."""
    return {(start, end): True for start, name, end in world[1] if name == tie}


def spot_of(world, thing):
    """The point that the thing is, None where it has no spot."""
    for name, point in world[2]:
        if name == thing:
            return point
    return None
