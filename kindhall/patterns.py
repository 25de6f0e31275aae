"""Which things of a book fit a pattern."""

from kindhall.findings import Findings, things_of
from kindhall.steps import subjects_in


def answers(book, pattern, log=None):
    """The sorted tuples of things, one for each free one of the pattern, with which each atom follows."""
    findings = Findings(book, [atom[2] for atom in pattern if atom[0] == "is"], log)
    things = things_of(book)
    frees = frees_in(pattern)
    told = [()]
    for many in range(len(frees) + 1):
        if many > 0:
            # The things come sorted, and so the longer tuples do.
            told = [names + (thing,) for names in told for thing in things]
        due = [atom for atom in pattern if frees_needed(atom, frees) == many]
        told = [names for names in told if fits(findings, due, dict(zip(frees, names)))]
    return told


def frees_in(pattern):
    """The free ones of a pattern, each once, in the order in which they come first."""
    return list({who[1]: True for atom in pattern for who in subjects_in(atom) if who[0] == "free"})


def frees_needed(atom, frees):
    """How many of the free ones, from the first one on, must have things for the atom to be asked."""
    return max([frees.index(who[1]) + 1 for who in subjects_in(atom) if who[0] == "free"], default=0)


def fits(findings, atoms, things_by):
    """Whether the atoms follow, with the things in the places of their free ones."""
    return all([findings.bears(filled(atom, things_by)) for atom in atoms])


def filled(atom, things_by):
    """The conclusion that an atom is with the things in the places of its free ones."""
    if atom[0] == "is":
        return ("is", thing_for(atom[1], things_by), atom[2])
    return ("tied", thing_for(atom[1], things_by), atom[2], thing_for(atom[3], things_by))


def thing_for(who, things_by):
    """The subject that stands for a thing or for a free one."""
    if who[0] == "free":
        return ("thing", things_by[who[1]])
    return who
