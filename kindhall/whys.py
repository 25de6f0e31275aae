"""Which sayings of a book something follows by."""

from kindhall.asking import grounds, whether
from kindhall.crossings import crossings
from kindhall.errors import NoSaying, TooMany

MOST_DOUBTED = 8


def why(book, saying):
    """Numbers from whose part the saying follows, none of which can be left out; None where it does not follow."""
    return why_among(book, numbers_in(book), saying)


def whys(book, doubted, saying):
    """All whys and all breaks of the saying among the doubted numbers."""
    if len(doubted) > MOST_DOUBTED:
        raise TooMany(f"more than {MOST_DOUBTED} numbers are doubted")
    for number in doubted:
        if number not in numbers_in(book):
            raise NoSaying(f"no saying has the number {number}")
    found = []
    breaks = []
    waiting = [[]]
    # A crossing of some whys is a break, or else there is one more why beside it. A break stays a crossing.
    while waiting:
        one = why_among(without(book, waiting[0]), doubted, saying)
        if one is None:
            breaks.append(waiting[0])
        else:
            found.append(one)
        waiting = [numbers for numbers in crossings(found) if numbers not in breaks]
    return sorted(found), sorted(breaks)


def needless(book):
    """The numbers of the sayings that follow from the book's other ones."""
    return [number for number, saying in book if whether(without(book, [number]), saying)]


def lean(book):
    """A list of numbers from whose part the whole book follows, and none of the part's sayings from its others."""
    kept = book
    for number, saying in book:
        rest = without(kept, [number])
        if whether(rest, saying):
            kept = rest
    return numbers_in(kept)


def numbers_in(book):
    """The numbers of a book."""
    return [number for number, saying in book]


def without(book, numbers):
    """The book's part of all but these numbers."""
    return [(number, saying) for number, saying in book if number not in numbers]


def why_among(book, doubted, saying):
    """Doubted numbers by which, with all that are not doubted, the saying follows, none of which can be left out."""
    kept = gone_by(book, doubted, saying)
    if kept is None:
        return None
    # A number that was needed once is still needed where fewer are left, so each one is tried but once.
    for number in doubted:
        if number in kept:
            left_out = [other for other in doubted if other == number or other not in kept]
            fewer = gone_by(without(book, left_out), doubted, saying)
            if fewer is not None:
                kept = fewer
    return kept


def gone_by(book, doubted, saying):
    """The doubted numbers that the saying's grounds go by, None where it does not follow."""
    logs = grounds(book, saying)
    if logs is None:
        return None
    used = [step[3] for log in logs for step in log]
    return [number for number in doubted if number in used]
