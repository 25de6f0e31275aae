"""Halls: books that sayings are put into and taken out of."""

from kindhall.asking import grounds, otherwise, whether
from kindhall.building import least
from kindhall.errors import Full, NoSaying
from kindhall.homes import homes
from kindhall.patterns import answers
from kindhall.reading import read_saying
from kindhall.trees import told_pairs, tree
from kindhall.whys import lean, why, whys, without

MOST_SAYINGS = 40


def pairs_beyond(pairs, others):
    """The pairs that are none of the others."""
    known = {pair: True for pair in others}
    return [pair for pair in pairs if pair not in known]


class Hall:
    """A book of sayings that changes, from none on.

    In sayings is the book as it stands now, in pairs are its told pairs.
    """

    def __init__(self):
        self.sayings = []
        self.pairs = []
        self.latest = 0

    def put(self, text):
        """Put in the saying that the text writes; tell its number and the pairs that it brings."""
        saying = read_saying(text)
        if len(self.sayings) >= MOST_SAYINGS:
            raise Full(f"{MOST_SAYINGS} sayings stand already")
        self.latest += 1
        ahead = self.pairs
        self.keep(self.sayings + [(self.latest, saying)])
        return self.latest, pairs_beyond(self.pairs, ahead)

    def take(self, number):
        """Take out the saying with the number; tell the pairs that go with it."""
        rest = without(self.sayings, [number])
        if len(rest) == len(self.sayings):
            raise NoSaying(f"no saying stands by {number}")
        ahead = self.pairs
        self.keep(rest)
        return pairs_beyond(ahead, self.pairs)

    def keep(self, sayings):
        """Let this be the book from now on."""
        self.sayings = sayings
        self.pairs = told_pairs(sayings)

    def book(self):
        """The book as it stands now."""
        return list(self.sayings)

    def ask(self, text):
        """Whether the saying that the text writes follows."""
        return whether(self.sayings, read_saying(text))

    def grounds_of(self, text):
        """The grounds of the saying that the text writes."""
        return grounds(self.sayings, read_saying(text))

    def other_world(self, text):
        """A world that keeps the book and not the saying that the text writes."""
        return otherwise(self.sayings, read_saying(text))

    def reason(self, text):
        """A why of the saying that the text writes."""
        return why(self.sayings, read_saying(text))

    def reasons(self, doubted, text):
        """All whys and breaks among the doubted numbers, of the saying that the text writes."""
        return whys(self.sayings, doubted, read_saying(text))

    def pairs_now(self):
        """The told pairs of the book."""
        return list(self.pairs)

    def tree_now(self):
        """The tree of the book."""
        return tree(self.sayings)

    def homes_of(self, thing):
        """The homes of a thing of the book."""
        return homes(self.sayings, thing)

    def answers_to(self, pattern):
        """The answers of a pattern."""
        return answers(self.sayings, pattern)

    def lean_now(self):
        """A lean list of the book."""
        return lean(self.sayings)

    def least_now(self, asked):
        """The least world of the book and the asked thoughts."""
        return least(self.sayings, asked)
