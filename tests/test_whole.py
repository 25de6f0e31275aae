"""The whole promise [3], of books made in many ways, and that what is told leads back in [2, 5]."""

import itertools
import unittest

from kindhall.asking import grounds, otherwise, whether
from kindhall.building import clash, least
from kindhall.chains import chain, freed, leaned, place
from kindhall.closing import closed
from kindhall.crossings import crossings
from kindhall.hall import Hall
from kindhall.keeping import breach, keeps
from kindhall.leads import led
from kindhall.reading import read_saying, read_thought
from kindhall.rows import plain
from kindhall.showing import show_saying, show_thought
from kindhall.steps import follows, sound
from kindhall.telling import roll
from kindhall.trees import told_pairs, tree
from kindhall.whys import lean, needless, why, whys
from kindhall.worlds import points_of
from tests.answered import Answered
from tests.held import granted_of
from tests.made import Maker
from tests.rules import right_log, rows_of
from tests.samples import A, ANY, NONE, SAYINGS, THOUGHTS
from tests.test_closing import book_of

SMALL = [A, ANY, NONE]
SMALL_THOUGHTS = SMALL + [("some", "r", one) for one in SMALL] + [("both", A, ("some", "r", one)) for one in SMALL]
SMALL_SAYINGS = (
    [("every", one, other) for one in SMALL_THOUGHTS for other in SMALL_THOUGHTS]
    + [("no", one, other) for one in SMALL for other in SMALL]
    + [("same", A, ("some", "r", one)) for one in SMALL]
    + [("tie", "r", "s"), ("tie", "s", "r"), ("runs", "r"), ("chain", "r", "s", "r"), ("chain", "s", "s", "r")]
    + [("thing", "x", one) for one in SMALL_THOUGHTS] + [("link", "x", "r", "y"), ("link", "y", "s", "x"), ("link", "x", "r", "x")]
)


def book_by(maker, sorts, many, deep):
    """A book with sayings of these sorts alone."""
    book = []
    while len(book) < many:
        saying = maker.saying(deep)
        if saying[0] in sorts:
            book.append((len(book) + 1, saying))
    return book


def made_books(maker):
    """Books made in many ways."""
    yield []
    for sorts in (
        ("every",), ("every", "same", "no"), ("tie", "chain", "runs"), ("thing", "link"), ("every", "tie", "chain", "runs"),
        ("every", "thing"), ("link", "tie", "chain", "runs"), ("every", "same", "thing", "link", "chain"),
    ):
        for many, deep in ((1, 3), (4, 2), (9, 1), (20, 1)):
            yield book_by(maker, sorts, many, deep)
    for many in (2, 4, 6):
        yield list(enumerate(maker.chance.sample([saying for saying, text in SAYINGS], many), 1))
        yield list(enumerate(maker.chance.sample(SMALL_SAYINGS, many), 1))


class Promise(Answered):
    def test_books_made_in_many_ways(self):
        maker = Maker(3)
        told = []
        for _ in range(4):
            for book in made_books(maker):
                for saying in [maker.saying(2) for _ in range(3)] + [maker.one(SMALL_SAYINGS)] + [saying for n, saying in book[:2]]:
                    told.append(self.check_saying(book, saying))
        self.assertGreater(min(told.count(True), told.count(False)), 250)

    def test_all_small_sayings_of_an_empty_book(self):
        for saying in SMALL_SAYINGS:
            self.check_saying([], saying)

    def test_small_books_of_one_and_two(self):
        maker = Maker(301)
        for saying in SMALL_SAYINGS:
            self.check_saying([(1, saying)], maker.one(SMALL_SAYINGS))
        for _ in range(1500):
            one, two, three = [maker.one(SMALL_SAYINGS) for _ in range(3)]
            self.check_saying([(1, one), (2, two)], three)

    def test_all_small_worlds_are_heard(self):
        # A saying that follows holds in all worlds of one point and of two.
        maker = Maker(302)
        worlds = []
        for marks in ([[]], [["a"]], [[], []], [[], ["a"]], [["a"], ["a"]]):
            points = range(len(marks))
            pairs = list(itertools.product(points, points))
            for many in range(len(pairs) + 1):
                for r in itertools.combinations(pairs, many):
                    s = [pair for pair in pairs if maker.upto(1)]
                    ties = sorted([(p, "r", q) for p, q in r] + [(p, "s", q) for p, q in s])
                    worlds.append((marks, ties, [("x", maker.one(points)), ("y", maker.one(points))]))
        held = 0
        for _ in range(300):
            book = list(enumerate(maker.chance.sample(SMALL_SAYINGS, 2), 1))
            saying = maker.one(SMALL_SAYINGS)
            if whether(book, saying):
                for world in worlds:
                    if all(keeps(world, one) for number, one in book):
                        held += 1
                        self.assertTrue(keeps(world, saying), (book, saying, world))
        self.assertGreater(held, 200)

    def test_whys_breaks_and_trees(self):
        maker = Maker(303)
        for book in made_books(maker):
            saying = maker.saying(1)
            reason = why(book, saying)
            self.assertIs(reason is not None, whether(book, saying))
            if reason is not None:
                part = [row for row in book if row[0] in reason]
                self.assertEqual(why(part, saying), reason)
            doubted = [number for number, kept in book][:5]
            found, breaks = whys(book, doubted, saying)
            self.assertEqual((crossings(breaks), crossings(found)), (found, breaks))
            groups, edges = tree(book)
            pairs = told_pairs(book)
            for one, other in itertools.permutations([word for group in groups for word in group], 2):
                if {one, other} & {"anything", "nothing"} == set():
                    self.assertIs((one, other) in pairs, whether(book, ("every", ("kind", one), ("kind", other))))

    def test_a_hall_answers_as_its_book_read_anew(self):
        maker = Maker(304)
        for _ in range(12):
            hall = Hall()
            for book in [book_by(maker, ("every", "same", "thing", "link", "tie", "chain", "no"), 6, 2)]:
                for number, saying in book:
                    hall.put(show_saying(saying))
                hall.take(maker.one(book)[0])
                hall.put(show_saying(maker.saying(1)))
                hall.take(maker.one(hall.book())[0])
            anew = Hall()
            for number, saying in hall.book():
                anew.put(show_saying(saying))
            self.assertEqual([saying for number, saying in anew.book()], [saying for number, saying in hall.book()])
            self.assertEqual((anew.pairs_now(), anew.tree_now()), (hall.pairs_now(), hall.tree_now()))
            for _ in range(6):
                text = show_saying(maker.saying(2))
                self.assertIs(anew.ask(text), hall.ask(text))


class BackAgain(unittest.TestCase):
    """What one function tells, another one takes."""

    def test_worlds(self):
        maker = Maker(305)
        for book in made_books(maker):
            for world in (otherwise(book, maker.saying(2)), (least(book, [maker.thought(2)]) or [None])[0]):
                if world is not None:
                    self.assertTrue(all(keeps(world, saying) for number, saying in book))
                    self.assertTrue(all(breach(world, row) is None for number, saying in book for row in plain(saying)))
                    pairs = led(world, world)
                    self.assertTrue(all((point, point) in pairs for point in range(len(world[0]))))
                    self.assertEqual(points_of(world, ANY), list(range(len(world[0]))))
                    if len(world[0]) > 1 and (0, 1) not in pairs:
                        self.assertIsNotNone(roll(world, world, 0, 1))

    def test_logs(self):
        maker = Maker(306)
        for book in made_books(maker):
            saying = maker.saying(2)
            for row, log in zip(rows_of(saying), grounds(book, saying) or []):
                whole = granted_of(row) + book
                self.assertTrue(sound(whole, log))
                self.assertTrue(follows(whole, log[:-1], log[-1]))
                self.assertEqual(chain(log, log[-1][1]), log)
                self.assertEqual(place(log, log[-1][1]), len(log) - 1)
                self.assertEqual(leaned(log)[-1], sorted({step[3] for step in log} - {None}))
                if log[-1][0] not in ("all", "fall"):
                    self.assertEqual(closed(whole, [], log)[:len(log)], log)
            found = clash(book)
            if found is not None:
                self.assertTrue(sound(book, found))
                self.assertEqual(closed(book, [A], found)[:len(found)], found)
                for number, one in book:
                    rest = [kept for kept in book if kept[0] != number]
                    self.assertTrue(sound(rest, freed(found, number)))

    def test_lists_of_numbers(self):
        maker = Maker(307)
        for book in made_books(maker):
            numbers = lean(book)
            part = [row for row in book if row[0] in numbers]
            self.assertEqual((needless(part), lean(part)), ([], numbers))

    def test_texts(self):
        for thought, text in THOUGHTS:
            self.assertEqual(read_thought(show_thought(thought)), thought)
        for saying, text in SAYINGS:
            hall = Hall()
            hall.put(text)
            self.assertEqual(show_saying(hall.book()[0][1]), text)
            self.assertEqual(read_saying(text), saying)
            self.assertIs(hall.ask(text), True)

    def test_grounds_with_long_thoughts(self):
        # What is told may be handed in again, though the row of a no has a thought deeper than any that is handed in.
        deep = ANY
        for at in range(12):
            deep = ("both", ("kind", "k" * (at % 5 + 1)), ("some", "r", deep)) if at % 2 else ("some", "s", deep)
        book = [(1, ("no", A, deep))]
        log = grounds(book, ("no", deep, A))[0]
        self.assertTrue(right_log(book, log) and sound(book, log))
        self.assertTrue(whether(book, ("no", A, deep), log))
        self.assertEqual(closed(book, [], log)[:len(log)], log)
        self.assertEqual(book_of("no a is b"), [(1, ("no", A, ("kind", "b")))])


if __name__ == "__main__":
    unittest.main()
