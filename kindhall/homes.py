"""What lies above words in a tree, and where things are at home in it."""

from kindhall.errors import NoKind, NoThing
from kindhall.findings import Findings, things_of
from kindhall.grouping import grouped
from kindhall.thoughts import thought_of
from kindhall.trees import tree


def above(tree_told, word):
    """The sorted list of all other words that the word is under."""
    groups, edges = tree_told
    upward = upward_from(edges, group_of(groups, word))
    return sorted([other for group in upward for other in groups[group] if other != word])


def nearest(tree_told, one, other):
    """The lowest groups that both words are in or under."""
    groups, edges = tree_told
    first = upward_from(edges, group_of(groups, one))
    second = upward_from(edges, group_of(groups, other))
    return lowest(edges, [group for group in first if group in second])


def homes(book, thing, log=None):
    """The lowest groups of the book's tree whose words the thing is."""
    if thing not in things_of(book):
        raise NoThing(f"the book names no thing {thing}")
    groups, edges = tree(book, log)
    # The words of a group are each under the others, so the first one does for all.
    thoughts = [thought_of(group[0]) for group in groups]
    findings = Findings(book, thoughts, log)
    borne = [findings.bears(("is", ("thing", thing), thought)) for thought in thoughts]
    return lowest(edges, [group for group, held in enumerate(borne) if held])


def group_of(groups, word):
    """The place of the group that the word stands in."""
    for at, group in enumerate(groups):
        if word in group:
            return at
    raise NoKind(f"{word} stands in no group")


def upward_from(edges, group):
    """The places of the group and of all groups that one comes to from it by edges, sorted."""
    higher = grouped(edges)
    found = {group: True}
    waiting = [group]
    while waiting:
        low = waiting.pop()
        for top in higher.get(low, []):
            if top not in found:
                found[top] = True
                waiting.append(top)
    return sorted(found)


def lowest(edges, places):
    """Those of the places under which no other one lies; with a group, all above it are among them."""
    # So where one lies under another, an edge comes to that one from one of them.
    higher = [top for low, top in edges if low in places]
    return [group for group in places if group not in higher]
