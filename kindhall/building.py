"""The least worlds of books, and why a book has no world."""

from kindhall.findings import Findings, things_of


def clash(book, log=None):
    """A log to a thing of the book being nothing, None where some world keeps the book."""
    findings = Findings(book, [], log)
    if findings.fallen is None:
        return None
    return findings.way(findings.fallen)


def least(book, asked, log=None):
    """The least world of the book and the asked thoughts, with their places; None where no world keeps the book."""
    findings = Findings(book, asked, log)
    if findings.fallen is not None:
        return None
    points = points_by_number(findings.ledger)
    places = [points.get(findings.ledger.number(thought)) for thought in asked]
    return world_of(findings.ledger, things_of(book)), places


def points_by_number(ledger):
    """The points of the ledger's world: one for each thing and each thought told of that is not nothing."""
    nothing = ledger.number(("none",))
    living = [fact[1] for fact in ledger.facts if ("is", fact[1], nothing) not in ledger.standing]
    return {number: point for point, number in enumerate(sorted(set(living)))}


def world_of(ledger, things):
    """The world in which each point is and is tied as the ledger tells, with the spots of the sorted things."""
    points = points_by_number(ledger)
    marks = [[] for point in points]
    ties = []
    for fact in ledger.facts:
        if fact[1] in points and fact[0] == "tied":
            ties.append((points[fact[1]], fact[2], points[fact[3]]))
        elif fact[1] in points and ledger.subjects[fact[2]][0] == "kind":
            marks[points[fact[1]]].append(ledger.subjects[fact[2]][1])
    spots = [(thing, points[ledger.number(("thing", thing))]) for thing in things]
    return [sorted(kinds) for kinds in marks], sorted(ties), spots
