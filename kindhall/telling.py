"""Thoughts that tell two points apart."""

from kindhall.leads import partings


def roll(world, other, p, q):
    """The roll of a thought that has p among its points in the world and not q among those in the other.

    None where p leads to q: there is no such thought then.
    """
    reasons = partings(world, other)
    if (p, q) not in reasons:
        return None
    rows = []
    places = {}
    for pair in needed_pairs(other, reasons, (p, q)):
        inner = [places[one] for one in pairs_within(other, reasons, pair)]
        add_rows(rows, reasons[pair], inner)
        places[pair] = len(rows) - 1
    return rows


def pairs_within(other, reasons, pair):
    """The pairs that the reason of a pair goes by."""
    reason = reasons[pair]
    if reason[0] == "kind":
        return []
    return [(reason[2], end) for start, tie, end in other[1] if start == pair[1] and tie == reason[1]]


def needed_pairs(other, reasons, last):
    """The last pair and all pairs that its reason and theirs go by, each behind those that its own one goes by."""
    needed = {last: True}
    told = []
    for pair in reversed(list(reasons)):
        if pair in needed:
            told.append(pair)
            for inner in pairs_within(other, reasons, pair):
                needed[inner] = True
    return told[::-1]


def add_rows(rows, reason, inner):
    """Add the rows of a pair's thought, whose last one stands for it, out of the places of those that it goes by."""
    if reason[0] == "kind":
        rows.append(reason)
        return
    if not inner:
        rows.append(("any",))
        inner = [len(rows) - 1]
    whole = inner[0]
    for at in inner[1:]:
        rows.append(("both", whole, at))
        whole = len(rows) - 1
    rows.append(("some", reason[1], whole))
