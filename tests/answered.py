"""Checks of what is told of a book and a saying, for the tests.

A saying follows where a log that is sound by the rules ends with it, and does not follow where a world keeps the book
and not the saying. Both are looked at without the program, so whoever tells the one or the other tells the truth.
"""

import unittest

from kindhall.asking import grounds, otherwise, whether
from kindhall.building import clash
from kindhall.chains import freed
from kindhall.closing import closed
from kindhall.reading import read_saying
from kindhall.thoughts import depth
from tests.held import all_kept, due_of, granted_of, kept, parts_spoken_of, things_named, well_told
from tests.rules import right_log, rows_of


def deepest(log):
    """The depth of the deepest thought in a log."""
    thoughts = [part for step in log for part in step[1][1:] if isinstance(part, tuple) and part[0] != "thing"]
    return max([depth(thought) for thought in thoughts], default=0)


def logs_for(maker, book):
    """Logs that the closing would take for the book."""
    asked = [maker.thought(2) for _ in range(3)]
    more = maker.saying(2)
    number = book[-1][0] + 1 if book else 1
    logs = [None, [], closed(book, asked), closed(book[:len(book) // 2], asked[:1])]
    logs.append(freed(closed(book + [(number, more)], asked), number))
    found = clash(book)
    if found is not None:
        logs.append(found)
    return logs


def long_log():
    """A book and a log of it as long as logs are handed in."""
    names = "abcdefghijklmnopqrstuvwxyz"
    book = [(at + 1, ("link", names[at], "r", names[(at + 1) % 26])) for at in range(26)]
    book += [(27, ("runs", "r")), (28, ("tie", "r", "s")), (29, ("chain", "r", "s", "t")), (30, ("thing", "c", ("kind", "a")))]
    return book, closed(book, [])[:2000]


class Answered(unittest.TestCase):
    def check_grounds(self, book, saying, told):
        """Check logs that are told as the grounds of a saying."""
        rows = rows_of(saying)
        self.assertIs(type(told), list)
        self.assertEqual(len(told), len(rows))
        for row, log in zip(rows, told):
            self.assertIs(type(log), list)
            self.assertTrue(right_log(granted_of(row) + book, log), (book, saying, log))
            self.assertEqual(log[-1][1], due_of(row))
            self.assertLessEqual(deepest(log), 40)

    def check_otherwise(self, book, saying, world, bound=True):
        """Check a world that is told as one without the saying."""
        self.assertTrue(well_told(world), world)
        self.assertTrue(all_kept(world, book), (book, saying, world))
        self.assertFalse(kept(world, saying), (book, saying, world))
        self.assertEqual({thing for thing, point in world[2]}, things_named(book))
        if bound:
            parts = parts_spoken_of([kept_one for number, kept_one in book] + [saying], [])
            self.assertLessEqual(len(world[0]), 3 + len(things_named(book)) + len(parts), (book, saying))

    def check_saying(self, book, saying, log=None):
        """Check all three answers of a book and a saying; give whether it follows."""
        told = whether(book, saying, log)
        self.assertIs(type(told), bool)
        if told:
            self.check_grounds(book, saying, grounds(book, saying, log))
            self.assertIsNone(otherwise(book, saying, log))
        else:
            self.assertIsNone(grounds(book, saying, log))
            self.check_otherwise(book, saying, otherwise(book, saying, log), not log)
        return told

    def follow(self, book, *texts):
        for text in texts:
            self.assertTrue(self.check_saying(book, read_saying(text)), text)

    def follow_not(self, book, *texts):
        for text in texts:
            self.assertFalse(self.check_saying(book, read_saying(text)), text)
