"""Whether a saying follows from a book: the steps to it, or a world without it."""

from kindhall.building import world_of
from kindhall.findings import Findings, things_of
from kindhall.rows import plain, stated


def granted(row):
    """The granted sayings of a plain row."""
    if row[0] == "sub":
        return [(0, ("link", "X", row[1], "Y"))]
    if row[0] == "chain":
        return [(-1, ("link", "X", row[1], "Y")), (0, ("link", "Y", row[2], "Z"))]
    return []


def goal(row):
    """The due conclusion of a plain row."""
    if row[0] == "under":
        return ("is", row[1], row[2])
    if row[0] == "sub":
        return ("tied", ("thing", "X"), row[2], ("thing", "Y"))
    if row[0] == "chain":
        return ("tied", ("thing", "X"), row[3], ("thing", "Z"))
    return stated(row)


def whether(book, saying, log=None):
    """Whether the saying follows from the book."""
    findings = findings_for(book, saying, log)
    return all([findings.bears(conclusion) for conclusion in goals(saying)])


def grounds(book, saying, log=None):
    """For each plain row of the saying a log that ends with its due conclusion, None where it does not follow."""
    findings = findings_for(book, saying, log)
    ways = [findings.way(conclusion) for conclusion in goals(saying)]
    return None if None in ways else ways


def otherwise(book, saying, log=None):
    """A world that keeps the book and not the saying, None where the saying follows."""
    findings = findings_for(book, saying, log)
    if all([findings.bears(conclusion) for conclusion in goals(saying)]):
        return None
    return world_of(findings.ledger, things_of(book))


def goals(saying):
    """The due conclusions of a saying's plain rows."""
    return [goal(row) for row in plain(saying)]


def findings_for(book, saying, log):
    """What the book tells of all that the saying speaks of, with the granted sayings."""
    rows = plain(saying)
    # Where a saying has two plain rows, neither has granted sayings, so those of the first row do for both.
    return Findings(granted(rows[0]) + book, [thought for row in rows for thought in thoughts_of(row)], log)


def thoughts_of(row):
    """The thoughts right within a plain row."""
    if row[0] == "under":
        return [row[1], row[2]]
    if row[0] == "mark":
        return [row[2]]
    return []
