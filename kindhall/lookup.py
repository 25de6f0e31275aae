"""What a closing may go on by: the plain rows of its book and its thoughts, by what leads to them."""

from kindhall.grouping import grouped
from kindhall.rows import plain, stated


class Lookup:
    """The rows and thoughts of a closing, with the numbers of its ledger in the places of thoughts and things.

    It gives numbers to the thoughts of the rows; all other thoughts of the closing must have theirs ahead of it.
    """

    def __init__(self, book, ledger):
        self.anything = ledger.number(("any",))
        self.nothing = ledger.number(("none",))
        self.take_rows([(number, row) for number, saying in book for row in plain(saying)], ledger)
        self.take_thoughts(list(ledger.numbers))

    def take_rows(self, rows, ledger):
        """Note the rows, each with the number of its saying, by the sorts of steps that go by them."""
        self.starts = [
            (row[0], ledger.fact(stated(row)), number) for number, row in rows if row[0] in ("mark", "link")
        ]
        self.unders = grouped([
            (ledger.number(row[1]), (number, ledger.number(row[2]))) for number, row in rows if row[0] == "under"
        ])
        self.subs = grouped([(row[1], (number, row[2])) for number, row in rows if row[0] == "sub"])
        chains = [(number, row) for number, row in rows if row[0] == "chain"]
        self.firsts = grouped([(row[1], (number, row[2], row[3])) for number, row in chains])
        self.seconds = grouped([(row[2], (number, row[1], row[3])) for number, row in chains])

    def take_thoughts(self, shapes):
        """Note the thoughts and things by their numbers, and those made of others by the others."""
        self.shapes = shapes
        somes = [(whole, shape) for whole, shape in enumerate(shapes) if shape[0] == "some"]
        self.somes = {shape[1:]: whole for whole, shape in somes}
        self.wholes = grouped([(shape[2], (shape[1], whole)) for whole, shape in somes])
        boths = [(whole, shape) for whole, shape in enumerate(shapes) if shape[0] == "both"]
        self.boths = grouped([(part, whole) for whole, shape in boths for part in shape[1:]])
