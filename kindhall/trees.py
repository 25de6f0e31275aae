"""Which kinds are under which by what follows from a book."""

from kindhall.findings import Findings
from kindhall.grouping import grouped
from kindhall.thoughts import WORDS, named, thought_of


def told_pairs(book, log=None):
    """The sorted pairs of unlike kinds of the book of which the first is under the second."""
    return [
        (word, other)
        for word, other in pairs_under(book, log)
        if word != other and word not in WORDS and other not in WORDS
    ]


def tree(book, log=None):
    """The groups of words that are each under the others, and the edges between groups."""
    pairs = pairs_under(book, log)
    groups = groups_of(pairs)
    return groups, edges_between([group[0] for group in groups], pairs)


def words_of(book):
    """The words of a book, sorted."""
    kinds = named([saying for number, saying in book])[0]
    return sorted(kinds + list(WORDS))


def pairs_under(book, log):
    """All pairs of words, perhaps alike, of which the first is under the second, sorted, as the keys of a dict."""
    words = words_of(book)
    findings = Findings(book, [thought_of(word) for word in words], log)
    numbers = {word: findings.ledger.number(thought_of(word)) for word in words}
    pairs = {}
    for word in words:
        void = findings.bears(("is", thought_of(word), ("none",)))
        for other in words:
            if void or ("is", numbers[word], numbers[other]) in findings.ledger.standing:
                pairs[(word, other)] = True
    return pairs


def groups_of(pairs):
    """The groups of the words in the pairs, sorted."""
    mutual = grouped([pair for pair in pairs if (pair[1], pair[0]) in pairs])
    # Each word is under itself and comes with its whole group; only the first one of a group tells it.
    return [group for word, group in mutual.items() if group[0] == word]


def edges_between(leaders, pairs):
    """The edges between the groups with these first words."""
    edges = []
    for low, word in enumerate(leaders):
        higher = [top for top, other in enumerate(leaders) if top != low and (word, other) in pairs]
        for top in higher:
            between = [middle for middle in higher if middle != top and (leaders[middle], leaders[top]) in pairs]
            if not between:
                edges.append((low, top))
    return edges
