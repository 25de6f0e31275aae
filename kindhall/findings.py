"""What a closing tells, and what follows from its book by that."""

from kindhall.chains import chain
from kindhall.closing import settled
from kindhall.thoughts import named


def things_of(book):
    """The things that the book names, sorted."""
    return named([saying for number, saying in book])[2]


class Findings:
    """The closing of a book and asked thoughts, as a ledger.

    It is asked for conclusions about an asked thought or a thing, and for thoughts T of them that are among the
    closing's thoughts; of others it does not tell all that follows. In fallen is a told conclusion that a thing is
    nothing: no world keeps the book then. Else it is None.
    """

    def __init__(self, book, asked, log):
        self.ledger = settled(book, asked, log)
        voids = [("is", ("thing", thing), ("none",)) for thing in things_of(book)]
        told = [void for void in voids if self.tells(void)]
        self.fallen = told[0] if told else None

    def tells(self, conclusion):
        """Whether the closing itself tells the conclusion."""
        return self.ledger.fact(conclusion) in self.ledger.standing

    def warrant(self, conclusion):
        """A told conclusion from which this one comes at once or by one step, None where it does not follow."""
        if self.tells(conclusion):
            return conclusion
        void = ("is", conclusion[1], ("none",))
        if conclusion[0] == "is" and self.tells(void):
            return void
        return self.fallen

    def bears(self, conclusion):
        """Whether the conclusion follows from the book."""
        return self.warrant(conclusion) is not None

    def way(self, conclusion):
        """A sound log whose last step has the conclusion, None where it does not follow."""
        found = self.warrant(conclusion)
        if found is None:
            return None
        told = chain(self.ledger.log, found)
        if found != conclusion:
            rule = "fall" if found[1][0] == "thing" else "all"
            told.append((rule, conclusion, (len(told) - 1,), None))
        return told
