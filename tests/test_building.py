"""A book's clash, and the least world of a book and asked thoughts [24, 25, 27]."""

import copy
import unittest

from kindhall.asking import otherwise, whether
from kindhall.building import clash, least
from kindhall.chains import chain, freed
from kindhall.closing import closed
from tests.answered import deepest, logs_for, long_log
from tests.held import all_kept, parts_spoken_of, things_named, well_told
from tests.made import KINDS, TIES, Maker
from tests.rules import right_log
from tests.samples import A, ANY, B, NONE, tied, towers
from tests.test_closing import book_of, kind
from tests.test_leads import slow_led
from tests.test_worlds import held_by

C = ("kind", "c")
LETTERS = "abcdefghijklmnopqrstuvwxyz"
CLASHING = [
    ["thing x is nothing"],
    ["thing x is (r some nothing)"],
    ["thing x r y", "thing y is a", "no a is a"],
    ["thing x is a", "thing x is b", "no b is a"],
    ["thing x r y", "thing y r z", "tie r runs on", "thing z is a", "thing x is b", "no b is (r some a)", "thing w is a"],
    ["thing x is anything", "every anything is (r some a)", "every (r some anything) is b", "no a is b"],
    ["thing x r x", "tie r is s", "tie s s is t", "every (t some (t some anything)) is nothing"],
]
KEPT = [
    [],
    ["every anything is nothing"],
    ["every a is nothing", "every a is (r some a)", "no anything is b", "tie r is s", "tie r runs on", "tie r s is t"],
    ["thing x is anything"],
    ["thing x is b", "no a is b", "every a is nothing", "every (r some anything) is nothing"],
    ["thing x r y", "thing y is a", "no (s some a) is anything", "every a is (r some a)"],
]


class Clashes(unittest.TestCase):
    def check(self, book, log=None):
        """Check what is told of a clash; give whether there is one."""
        told = clash(book, log)
        if told is None:
            world = least(book, [], log)[0]
            self.assertTrue(all_kept(world, book))
            return False
        self.assertIs(type(told), list)
        self.assertTrue(right_log(book, told), (book, told))
        sort, subject, thought = told[-1][1]
        self.assertEqual((sort, subject[0], thought), ("is", "thing", NONE))
        self.assertIn(subject[1], things_named(book))
        self.assertLessEqual(deepest(told), 40)
        self.assertIsNone(least(book, [], log))
        return True

    def test_books_that_no_world_keeps(self):
        for texts in CLASHING:
            self.assertTrue(self.check(book_of(*texts)), texts)

    def test_books_with_a_world(self):
        for texts in KEPT:
            self.assertFalse(self.check(book_of(*texts)), texts)

    def test_a_book_that_names_no_thing(self):
        maker = Maker(24)
        for _ in range(100):
            book = [row for row in maker.book(8, 2) if row[1][0] not in ("thing", "link")]
            self.assertIsNone(clash(book))

    def test_each_saying_is_needed(self):
        # Without any one of its sayings each of these books has a world.
        for texts in (CLASHING[0], CLASHING[1], CLASHING[3], CLASHING[4][:-1], CLASHING[5], CLASHING[6]):
            for left in range(len(texts)):
                self.assertFalse(self.check(book_of(*texts[:left], *texts[left + 1:])), texts)

    def test_many_made_ones(self):
        maker = Maker(240)
        found = [self.check(maker.book(maker.upto(9), 2)) for _ in range(500)]
        self.assertGreater(min(found.count(True), found.count(False)), 80)

    def test_with_logs(self):
        maker = Maker(241)
        for _ in range(100):
            book = maker.book(maker.upto(9), 2)
            for log in logs_for(maker, book):
                self.assertIs(self.check(book, log), clash(book) is not None)

    def test_deep_thoughts(self):
        for many in (12, 13):
            for thought, text in towers(many):
                book = [(1, ("thing", "x", thought)), (2, ("every", A, NONE))]
                self.assertTrue(self.check(book), text)
                self.assertFalse(self.check(book[:1]), text)
            book = [(1, ("thing", "x", A)), (2, ("every", A, ("some", "r", A))), (3, ("every", tied(many)[0], NONE))]
            self.assertTrue(self.check(book))

    def test_a_long_row_of_things(self):
        names = ["t" + letter for letter in LETTERS] + ["u" + letter for letter in LETTERS]
        for many in (40, 45):
            book = [(at + 1, ("link", names[at], "r", names[at + 1])) for at in range(many - 1)]
            self.assertFalse(self.check(book))
            self.assertTrue(self.check(book + [(many, ("thing", names[many - 1], NONE))]))


class Checked(unittest.TestCase):
    def check(self, book, asked, log=None, others=()):
        """Check what is told of a least world; give it, or None."""
        told = least(book, asked, log)
        if told is None:
            self.assertTrue(right_log(book, clash(book)))
            return None
        self.assertIs(type(told), tuple)
        world, places = told
        self.assertIs(type(places), list)
        self.assertTrue(well_told(world), world)
        self.assertTrue(all_kept(world, book), (book, asked, world))
        things = things_named(book)
        self.assertEqual({thing for thing, point in world[2]}, things)
        self.assertEqual(len(places), len(asked))
        for thought, point in zip(asked, places):
            self.assertIs(point is None, whether(book, ("every", thought, NONE)), (book, thought))
            if point is not None:
                self.assertIn(point, held_by(world, thought))
        if not log:
            parts = parts_spoken_of([saying for number, saying in book], asked)
            self.assertLessEqual(len(world[0]), 2 + len(things) + len(parts), (book, asked))
        self.check_leads(book, asked, told, others)
        return told

    def check_leads(self, book, asked, told, others):
        """Check that each place and spot leads to all that it must lead to in the other worlds."""
        world, places = told
        for other in others:
            self.assertTrue(all_kept(other, book))
            pairs = set(slow_led(world, other))
            for thought, point in zip(asked, places):
                if point is None:
                    self.assertEqual(held_by(other, thought), set())
                for end in held_by(other, thought):
                    self.assertIn((point, end), pairs, (book, thought, world, other))
            ends = dict(other[2])
            for thing, point in world[2]:
                self.assertIn((point, ends[thing]), pairs, (book, thing, world, other))

    def check_points(self, book, asked, told, thoughts):
        """Check that the places and spots are points of just the thoughts that follow, and tied just so."""
        world, places = told
        for thought in thoughts:
            held = held_by(world, thought)
            for one, point in zip(asked, places):
                if point is not None:
                    self.assertIs(point in held, whether(book, ("every", one, thought)), (book, one, thought))
            for thing, point in world[2]:
                self.assertIs(point in held, whether(book, ("thing", thing, thought)), (book, thing, thought))
        for one, start in world[2]:
            for other, end in world[2]:
                for tie in TIES + ["other"]:
                    told_tie = (start, tie, end) in world[1]
                    self.assertIs(told_tie, whether(book, ("link", one, tie, other)), (book, one, tie, other))


def worlds_of(maker, book):
    """Worlds that keep the book: small ones that happen to, and least ones of books that say more."""
    found = []
    for _ in range(12):
        world = maker.world(maker.upto(3), maker.upto(7))
        if all_kept(world, book):
            found.append(world)
    for _ in range(3):
        number = book[-1][0] + 1 if book else 1
        more = book + [(number + at, maker.saying(1)) for at in range(1 + maker.upto(1))]
        told = least(more, [maker.thought(2) for _ in range(2)])
        if told is not None:
            found.append(told[0])
        world = otherwise(book, maker.saying(2))
        if world is not None:
            found.append(world)
    return found


class Least(Checked):
    def test_an_empty_book(self):
        self.assertEqual(least([], []), (([], [], []), []))
        self.assertEqual(least([], [NONE]), (([], [], []), [None]))
        self.assertEqual(least([], [A]), (([["a"]], [], []), [0]))
        self.assertEqual(least([], [ANY]), (([[]], [], []), [0]))
        world, places = self.check([], [("some", "r", A)])
        self.assertEqual(sorted(world[0]), [[], ["a"]])
        self.assertEqual(world[1], [(places[0], "r", 1 - places[0])])

    def test_no_world(self):
        for texts in CLASHING:
            for asked in ([], [A], [NONE, ANY, B]):
                self.assertIsNone(least(book_of(*texts), asked))

    def test_a_world(self):
        for texts in KEPT:
            for asked in ([], [A], [NONE, ANY, B, ("both", A, B), ("some", "r", ("some", "s", A))]):
                self.assertIsNotNone(self.check(book_of(*texts), asked))

    def test_thoughts_that_are_nothing(self):
        book = book_of("no a is b", "every c is (r some (a and b))", "thing x is a")
        asked = [A, ("both", A, B), C, NONE, ("some", "s", C), B, ("both", B, A), ("some", "r", ANY)]
        world, places = self.check(book, asked)
        self.assertEqual([place is None for place in places], [False, True, True, True, True, False, True, False])

    def test_alike_thoughts(self):
        world, places = self.check(book_of("every a is b"), [A, B, A, ("kind", "".join(["b"])), A])
        self.assertEqual(len(places), 5)
        self.check([], [NONE, A, NONE, A])

    def test_no_asked_thoughts(self):
        world, places = self.check(book_of("every a is (r some b)", "tie r is s"), [])
        self.assertEqual((world, places), (([], [], []), []))
        world, places = self.check(book_of("thing x is a", "thing y r x"), [])
        self.assertEqual((len(world[0]), places), (2, []))

    def test_a_kind_that_stands_nowhere(self):
        book = book_of("thing x is b", "every b is (r some c)")
        self.check_points(book, [A], self.check(book, [A]), [A, B, C, ANY, NONE])

    def test_things_that_are_tied(self):
        book = book_of("thing x r y", "thing y r z", "tie r runs on", "tie r is s", "thing z is (r some a)", "thing w is a")
        world, places = self.check(book, [])
        spots = dict(world[2])
        names = {point: thing for thing, point in world[2]}
        told = {(names[p], r, names[q]) for p, r, q in world[1] if p in names and q in names}
        self.assertEqual(told, {(p, r, q) for p, q in ("xy", "xz", "yz") for r in "rs"})
        self.assertEqual(world[0][spots["w"]], ["a"])

    def test_rings_end(self):
        world, places = self.check(book_of("every a is (r some b)", "every b is (r some a)"), [A])
        self.assertEqual(sorted(world[0]), [["a"], ["b"]])
        self.assertEqual(len(world[1]), 2)

    def test_everything_is_something(self):
        book = book_of("every anything is (r some anything)", "every (r some anything) is a")
        world, places = self.check(book, [B])
        self.assertTrue(all("a" in kinds for kinds in world[0]))

    def test_made_ones(self):
        maker = Maker(25)
        seen = 0
        for _ in range(150):
            book = maker.book(maker.upto(6), 2)
            asked = [maker.thought(2) for _ in range(maker.upto(3))]
            others = worlds_of(maker, book)
            told = self.check(book, asked, None, others)
            if told is not None:
                seen += len(others)
                thoughts = [maker.thought(3) for _ in range(6)] + [("kind", name) for name in KINDS]
                self.check_points(book, asked, told, thoughts)
        self.assertGreater(seen, 300)

    def test_with_logs(self):
        maker = Maker(26)
        for _ in range(60):
            book = maker.book(maker.upto(6), 2)
            asked = [maker.thought(2) for _ in range(maker.upto(3))]
            others = worlds_of(maker, book)
            for log in logs_for(maker, book):
                told = self.check(book, asked, log, others)
                self.assertIs(told is None, least(book, asked) is None)
                if told is not None:
                    self.check_points(book, asked, told, [maker.thought(2) for _ in range(3)])

    def test_a_log_of_chains_and_freed_ones(self):
        book = book_of("every a is (r some b)", "every b is c", "thing x is a", "tie r is s", "thing x r y", "every (s some c) is c")
        told = closed(book, [A, B])
        for step in told:
            self.check(book, [A, C], chain(told, step[1]))
        for number, saying in book:
            rest = [row for row in book if row[0] != number]
            log = freed(told, number)
            self.check_points(rest, [A, C], self.check(rest, [A, C], log), [A, B, C, ("some", "r", ANY), ("some", "s", C)])


class Bounds(Checked):
    def test_forty_sayings(self):
        maker = Maker(250)
        for many in (40, 44):
            book = [row for row in maker.book(3 * many, 1) if row[1][0] not in ("no", "same")]
            book = [row for row in book if NONE not in row[1][1:]][:many]
            self.check(book, [maker.thought(2) for _ in range(4)])
        book = [(at + 1, ("every", kind(at), ("some", "r", kind(at + 1)))) for at in range(39)] + [(40, ("runs", "r"))]
        world, places = self.check(book, [kind(0), kind(39), kind(5)])
        self.assertEqual(len(world[0]), 40)
        self.assertEqual(len(world[1]), 40 * 39 // 2)

    def test_deep_thoughts(self):
        for many in (12, 13):
            asked = [thought for thought, text in towers(many)]
            for book in ([], book_of("every a is b", "every b is a"), book_of("every a is (r some a)", "tie r runs on")):
                told = self.check(book, asked)
                self.check_points(book, asked, told, asked + [A, B])
            self.assertEqual(least(book_of("every a is nothing"), asked)[1], [None] * 3)

    def test_three_hundred_parts(self):
        asked = [("some", "r", kind(at)) for at in range(148)]
        book = book_of("every (r some anything) is kk", "thing x is kk", "every kk is (s some kl)")
        world, places = self.check(book, asked)
        self.assertEqual(len(set(places)), 148)
        asked = [kind(at) for at in range(299)]
        world, places = self.check(book_of("every anything is zz"), asked)
        self.assertEqual(len(set(places)), 299)

    def test_a_log_of_two_thousand_steps(self):
        book, log = long_log()
        world, places = self.check(book, [A, B], log)
        spots = {point for thing, point in world[2]}
        self.assertEqual(held_by(world, ("some", "t", A)), spots)
        self.assertEqual(len([tie for tie in world[1] if tie[0] in spots and tie[2] in spots]), 3 * 26 * 26)
        self.assertIsNone(clash(book, log))
        clashing = book + [(31, ("no", A, ("some", "t", A)))]
        self.assertTrue(right_log(clashing, clash(clashing, log)))
        self.assertIsNone(least(clashing, [A], log))

    def test_three_hundred_asked_thoughts_that_are_alike(self):
        told = self.check(book_of("every a is b"), [A, B, NONE] * 100)
        self.assertEqual(told[1][:3] * 100, told[1])


class Owning(unittest.TestCase):
    BOOK = book_of("every a is (r some b)", "thing x is a", "thing x r y", "tie r is s")

    def test_what_is_handed_in_stays(self):
        asked = [A, NONE, B]
        log = closed(self.BOOK, [B])
        before = copy.deepcopy((self.BOOK, asked, log))
        for begun in (None, log):
            least(self.BOOK, asked, begun)
            clash(self.BOOK, begun)
            clash(self.BOOK + book_of("thing x is nothing"), begun)
        self.assertEqual((self.BOOK, asked, log), before)

    def test_what_is_told_is_the_askers_own(self):
        book = book_of("thing x r y", "thing y is nothing")
        for begun in (None, closed(book, [])):
            told = clash(book, begun)
            told.clear()
            self.assertTrue(right_log(book, clash(book, begun)) and clash(book, begun))
        for begun in (None, closed(self.BOOK, [])):
            first, second = least(self.BOOK, [A, B], begun), least(self.BOOK, [A, B], begun)
            before = copy.deepcopy(second)
            for kinds in first[0][0]:
                kinds.append("zz")
            for part in (*first[0], first[1]):
                part.clear()
            self.assertEqual(second, before)
            self.assertTrue(all_kept(least(self.BOOK, [A, B], begun)[0], self.BOOK))

    def test_changes_behind_the_call(self):
        book, asked = book_of("thing x is a"), [A]
        told = least(book, asked)
        before = copy.deepcopy(told)
        book.append((2, ("thing", "x", NONE)))
        asked.append(B)
        self.assertEqual(told, before)
        self.assertIsNone(least(book, asked))
        self.assertIsNotNone(clash(book))
        self.assertIsNone(clash(book[:1]))


if __name__ == "__main__":
    unittest.main()
