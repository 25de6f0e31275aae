"""The closing of a book: all that follows about what is asked, step by step.

Here a step that is due is a tuple like a step of a log, with a fact of the ledger in the place of the conclusion.
It may be told already; where ties make many such steps, they are left out at once, as that saves most of the time.
"""

from kindhall.ledger import Ledger
from kindhall.lookup import Lookup


def closed(book, asked, log=None):
    """The log handed in, and behind it steps to all that the closing tells of the book and the asked thoughts."""
    return settled(book, asked, log).log


def settled(book, asked, log):
    """The ledger of the closing."""
    ledger = Ledger()
    if log is not None:
        for step in log:
            ledger.adopt(step)
    wanted = [ledger.number(thought) for thought in asked]
    lookup = Lookup(book, ledger)
    for thought in wanted:
        tell_all(ledger, due_at_once(lookup, thought))
    tell_all(ledger, [(rule, fact, (), number) for rule, fact, number in lookup.starts])
    at = 0
    while at < len(ledger.facts):
        tell_all(ledger, due_behind(ledger, lookup, at))
        at += 1
    return ledger


def tell_all(ledger, due):
    """Add the steps that are due to the ledger's log."""
    for rule, fact, ahead, number in due:
        ledger.tell(rule, fact, ahead, number)


def due_behind(ledger, lookup, at):
    """The steps that are due of the fact at the place and of those reached ahead of it."""
    fact = ledger.reach(at)
    if fact[0] == "is":
        return (
            due_of_subject(lookup, fact[1], at)
            + due_of_unders(lookup, fact, at)
            + due_of_shape(lookup, fact, at)
            + due_of_boths(ledger, lookup, fact)
            + due_of_behind(ledger, lookup, fact, at)
            + due_of_void(ledger, lookup, fact, at)
        )
    return (
        due_of_subject(lookup, fact[1], at)
        + due_of_subject(lookup, fact[3], at)
        + due_of_end(ledger, lookup, fact, at)
        + due_of_subs(lookup, fact, at)
        + due_of_firsts(ledger, lookup, fact, at)
        + due_of_seconds(ledger, lookup, fact, at)
    )


def due_at_once(lookup, thought):
    """The steps by self and any of a thought."""
    return [("self", ("is", thought, thought), (), None), ("any", ("is", thought, lookup.anything), (), None)]


def due_of_subject(lookup, subject, at):
    """The steps by self, any and there that are due since the subject stands at the place."""
    if lookup.shapes[subject][0] == "thing":
        return [("there", ("is", subject, lookup.anything), (at,), None)]
    return due_at_once(lookup, subject)


def due_of_unders(lookup, fact, at):
    """The steps by under."""
    sort, start, inner = fact
    return [("under", ("is", start, outer), (at,), number) for number, outer in lookup.unders.get(inner, [])]


def due_of_shape(lookup, fact, at):
    """The steps by left, right and out."""
    sort, start, thought = fact
    shape = lookup.shapes[thought]
    if shape[0] == "both":
        return [("left", ("is", start, shape[1]), (at,), None), ("right", ("is", start, shape[2]), (at,), None)]
    if shape[0] == "some":
        return [("out", ("tied", start, shape[1], shape[2]), (at,), None)]
    return []


def due_of_boths(ledger, lookup, fact):
    """The steps by both."""
    sort, start, thought = fact
    due = []
    for whole in lookup.boths.get(thought, []):
        shape = lookup.shapes[whole]
        ahead = (ledger.standing.get(("is", start, shape[1])), ledger.standing.get(("is", start, shape[2])))
        if None not in ahead:
            due.append(("both", ("is", start, whole), ahead, None))
    return due


def due_of_behind(ledger, lookup, fact, at):
    """The steps by in of what is tied to the fact's subject."""
    sort, end, thought = fact
    due = []
    for tie, whole in lookup.wholes.get(thought, []):
        for start in ledger.backward.get((end, tie), []):
            if ("is", start, whole) not in ledger.standing:
                ahead = (ledger.standing[("tied", start, tie, end)], at)
                due.append(("in", ("is", start, whole), ahead, None))
    return due


def due_of_void(ledger, lookup, fact, at):
    """The steps by void of what is tied to the fact's subject, where that is nothing."""
    sort, end, thought = fact
    if thought != lookup.nothing:
        return []
    return [
        ("void", ("is", start, thought), (ledger.standing[("tied", start, tie, end)], at), None)
        for start, tie in ledger.behind.get(end, [])
    ]


def due_of_end(ledger, lookup, fact, at):
    """The steps by in and void of what the fact's tie ends at."""
    sort, start, tie, end = fact
    inners = [inner for inner in ledger.borne.get(end, []) if (tie, inner) in lookup.somes]
    found = [("in", lookup.somes[(tie, inner)], inner) for inner in inners]
    if ("is", end, lookup.nothing) in ledger.standing:
        found.append(("void", lookup.nothing, lookup.nothing))
    return [
        (rule, ("is", start, thought), (at, ledger.standing[("is", end, inner)]), None)
        for rule, thought, inner in found
        if ("is", start, thought) not in ledger.standing
    ]


def due_of_subs(lookup, fact, at):
    """The steps by sub."""
    sort, start, tie, end = fact
    return [("sub", ("tied", start, wide, end), (at,), number) for number, wide in lookup.subs.get(tie, [])]


def due_of_firsts(ledger, lookup, fact, at):
    """The steps by chain that begin with the fact's tie."""
    sort, start, tie, middle = fact
    due = []
    for number, second, whole in lookup.firsts.get(tie, []):
        for end in ledger.onward.get((middle, second), []):
            if ("tied", start, whole, end) not in ledger.standing:
                ahead = (at, ledger.standing[("tied", middle, second, end)])
                due.append(("chain", ("tied", start, whole, end), ahead, number))
    return due


def due_of_seconds(ledger, lookup, fact, at):
    """The steps by chain that end with the fact's tie."""
    sort, middle, tie, end = fact
    due = []
    for number, first, whole in lookup.seconds.get(tie, []):
        for start in ledger.backward.get((middle, first), []):
            if ("tied", start, whole, end) not in ledger.standing:
                ahead = (ledger.standing[("tied", start, first, middle)], at)
                due.append(("chain", ("tied", start, whole, end), ahead, number))
    return due
