"""The closing of a book: all that follows about what is asked, step by step.

Here a step that is due is a tuple like a step of a log, with a fact of the ledger in the place of the conclusion.
"""

from kindhall.ledger import Ledger
from kindhall.lookup import Lookup


def closed(book, asked, log=None):
    """The log handed in, and behind it steps to all that the closing tells of the book and the asked thoughts."""
    ledger = Ledger()
    if log is not None:
        for step in log:
            ledger.adopt(step)
    wanted = [ledger.number(thought) for thought in asked]
    lookup = Lookup(book, ledger)
    for thought in wanted:
        tell_all(ledger, due_at_once(lookup, thought))
    tell_all(ledger, [(rule, fact, (), number) for rule, fact, number in lookup.starts])
    at = 0
    while at < len(ledger.facts):
        tell_all(ledger, due_behind(ledger, lookup, at))
        at += 1
    return ledger.log


def tell_all(ledger, due):
    """Add the steps that are due to the ledger's log."""
    for rule, fact, ahead, number in due:
        ledger.tell(rule, fact, ahead, number)


def due_behind(ledger, lookup, at):
    """The steps that are due of the fact at the place and of those reached ahead of it."""
    fact = ledger.reach(at)
    if fact[0] == "is":
        return (
            due_of_subject(lookup, fact[1], at)
            + due_of_unders(lookup, fact, at)
            + due_of_shape(lookup, fact, at)
            + due_of_boths(ledger, lookup, fact)
            + due_of_behind(ledger, lookup, fact, at)
        )
    return (
        due_of_subject(lookup, fact[1], at)
        + due_of_subject(lookup, fact[3], at)
        + due_of_end(ledger, lookup, fact, at)
        + due_of_subs(lookup, fact, at)
        + due_of_firsts(ledger, lookup, fact, at)
        + due_of_seconds(ledger, lookup, fact, at)
    )


def due_at_once(lookup, thought):
    """The steps by self and any of a thought."""
    return [("self", ("is", thought, thought), (), None), ("any", ("is", thought, lookup.anything), (), None)]


def due_of_subject(lookup, subject, at):
    """The steps by self, any and there that are due since the subject stands at the place."""
    if lookup.shapes[subject][0] == "thing":
        return [("there", ("is", subject, lookup.anything), (at,), None)]
    return due_at_once(lookup, subject)


def due_of_unders(lookup, fact, at):
    """The steps by under."""
    sort, start, inner = fact
    return [("under", ("is", start, outer), (at,), number) for number, outer in lookup.unders.get(inner, [])]


def due_of_shape(lookup, fact, at):
    """The steps by left, right and out."""
    sort, start, thought = fact
    shape = lookup.shapes[thought]
    if shape[0] == "both":
        return [("left", ("is", start, shape[1]), (at,), None), ("right", ("is", start, shape[2]), (at,), None)]
    if shape[0] == "some":
        return [("out", ("tied", start, shape[1], shape[2]), (at,), None)]
    return []


def due_of_boths(ledger, lookup, fact):
    """The steps by both."""
    sort, start, thought = fact
    due = []
    for whole in lookup.boths.get(thought, []):
        shape = lookup.shapes[whole]
        ahead = (ledger.standing.get(("is", start, shape[1])), ledger.standing.get(("is", start, shape[2])))
        if None not in ahead:
            due.append(("both", ("is", start, whole), ahead, None))
    return due


def due_of_behind(ledger, lookup, fact, at):
    """The steps by in and void of what is tied to the fact's subject."""
    sort, end, thought = fact
    due = []
    for start, tie in ledger.behind.get(end, []):
        ahead = (ledger.standing[("tied", start, tie, end)], at)
        due.extend(due_of_tie(lookup, start, tie, thought, ahead))
    return due


def due_of_end(ledger, lookup, fact, at):
    """The steps by in and void of what the fact's tie ends at."""
    sort, start, tie, end = fact
    due = []
    for thought in ledger.borne.get(end, []):
        ahead = (at, ledger.standing[("is", end, thought)])
        due.extend(due_of_tie(lookup, start, tie, thought, ahead))
    return due


def due_of_tie(lookup, start, tie, thought, ahead):
    """The steps by in and void of a start that is tied to what is the thought, as is told at the places ahead."""
    due = []
    if (tie, thought) in lookup.somes:
        due.append(("in", ("is", start, lookup.somes[(tie, thought)]), ahead, None))
    if thought == lookup.nothing:
        due.append(("void", ("is", start, thought), ahead, None))
    return due


def due_of_subs(lookup, fact, at):
    """The steps by sub."""
    sort, start, tie, end = fact
    return [("sub", ("tied", start, wide, end), (at,), number) for number, wide in lookup.subs.get(tie, [])]


def due_of_firsts(ledger, lookup, fact, at):
    """The steps by chain that begin with the fact's tie."""
    sort, start, tie, middle = fact
    due = []
    for number, second, whole in lookup.firsts.get(tie, []):
        for end in ledger.onward.get((middle, second), []):
            ahead = (at, ledger.standing[("tied", middle, second, end)])
            due.append(("chain", ("tied", start, whole, end), ahead, number))
    return due


def due_of_seconds(ledger, lookup, fact, at):
    """The steps by chain that end with the fact's tie."""
    sort, middle, tie, end = fact
    due = []
    for number, first, whole in lookup.seconds.get(tie, []):
        for start in ledger.backward.get((middle, first), []):
            ahead = (ledger.standing[("tied", start, first, middle)], at)
            due.append(("chain", ("tied", start, whole, end), ahead, number))
    return due
