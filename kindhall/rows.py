"""The plain rows of sayings, and what they tell."""


def plain(saying):
    """The plain rows of a saying."""
    sort = saying[0]
    if sort == "every":
        return [("under", saying[1], saying[2])]
    if sort == "same":
        return [("under", saying[1], saying[2]), ("under", saying[2], saying[1])]
    if sort == "no":
        return [("under", ("both", saying[1], saying[2]), ("none",))]
    if sort == "tie":
        return [("sub", saying[1], saying[2])]
    if sort == "chain":
        return [("chain", saying[1], saying[2], saying[3])]
    if sort == "runs":
        return [("chain", saying[1], saying[1], saying[1])]
    if sort == "thing":
        return [("mark", saying[1], saying[2])]
    return [("link", saying[1], saying[2], saying[3])]


def stated(row):
    """The conclusion that a mark row or a link row tells by itself."""
    if row[0] == "mark":
        return ("is", ("thing", row[1]), row[2])
    return ("tied", ("thing", row[1]), row[2], ("thing", row[3]))
