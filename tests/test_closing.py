"""The closing of a book and asked thoughts, with and without a log to begin with [17]."""

import copy
import unittest

from kindhall.chains import chain, freed
from kindhall.closing import closed
from kindhall.reading import read_saying
from kindhall.steps import sound
from tests.made import Maker
from tests.rules import closing_of, closing_thoughts, right_log, rows_of
from tests.samples import A, ANY, B, NONE, leaning, tied, towers
from tests.test_chains import slow_needed, without
from tests.test_worlds import is_point

C = ("kind", "c")
X = ("thing", "x")
Y = ("thing", "y")
Z = ("thing", "z")


def book_of(*texts):
    return [(place + 1, read_saying(text)) for place, text in enumerate(texts)]


def kind(at):
    """One kind for each number below 676."""
    return ("kind", "abcdefghijklmnopqrstuvwxyz"[at // 26] + "abcdefghijklmnopqrstuvwxyz"[at % 26])


def holds(world, conclusion):
    """Whether a conclusion holds in a world in which each thing has a spot."""
    spots = dict(world[2])

    def points(subject):
        if subject[0] == "thing":
            return {spots[subject[1]]}
        return {point for point in range(len(world[0])) if is_point(world, point, subject)}

    if conclusion[0] == "is":
        return points(conclusion[1]) <= points(conclusion[2])
    ends = points(conclusion[3])
    return all(any((p, conclusion[2], q) in world[1] for q in ends) for p in points(conclusion[1]))


class Checked(unittest.TestCase):
    def check(self, book, asked, log=None):
        """Check all that the point tells of a closing; give its log."""
        begun = [] if log is None else log
        told = closed(book, asked, log)
        self.assertIs(type(told), list)
        self.assertEqual(told[:len(begun)], begun)
        self.assertTrue(right_log(book, told), (book, asked, log))
        self.assertTrue(sound(book, told))
        self.assertFalse({"all", "fall"} & {step[0] for step in told})
        conclusions = [step[1] for step in told]
        self.assertEqual(len(conclusions), len(set(conclusions)))
        # What the point makes the log tell, and what it allows behind the log handed in, are just the same.
        self.assertEqual(set(conclusions), closing_of(book, asked, begun), (book, asked, log))
        self.check_no_more(book, asked, begun, told)
        return told

    def check_no_more(self, book, asked, begun, told):
        thoughts = closing_thoughts(book, asked, begun)
        subjects = set(asked)
        for number, saying in book:
            if saying[0] in ("thing", "link"):
                subjects |= {("thing", name) for name in (saying[1:2] if saying[0] == "thing" else saying[1::2])}
        subjects |= {part for step in begun for part in step[1][1:4:2] if isinstance(part, tuple) and step[1][0] == "tied"}
        subjects |= {step[1][1] for step in begun}
        subjects |= {step[1][3] for step in told if step[1][0] == "tied"}
        for rule, conclusion, ahead, number in told[len(begun):]:
            self.assertIn(conclusion[1], subjects)
            if conclusion[0] == "is":
                self.assertIn(conclusion[2], thoughts)

    def tells(self, book, asked, *conclusions):
        told = {step[1] for step in self.check(book, asked)}
        for conclusion in conclusions:
            self.assertIn(conclusion, told)

    def tells_just(self, book, asked, *conclusions):
        self.assertEqual({step[1] for step in self.check(book, asked)}, set(conclusions))


class StandsStill(Checked):
    def test_nothing_at_all(self):
        for log in (None, []):
            self.assertEqual(closed([], [], log), [])

    def test_no_asked_thoughts(self):
        self.tells_just(book_of("every a is b", "tie r is s", "tie r s is t", "same a as (r some b)", "no a is b"), [])

    def test_an_empty_book(self):
        self.tells_just([], [A], ("is", A, A), ("is", A, ANY))
        self.tells_just([], [ANY], ("is", ANY, ANY))
        self.tells_just([], [NONE], ("is", NONE, NONE), ("is", NONE, ANY))
        both = ("both", A, B)
        self.tells_just([], [both], ("is", both, both), ("is", both, ANY), ("is", both, A), ("is", both, B))

    def test_asked_thoughts_that_are_alike(self):
        self.assertEqual(len(closed([], [A, A, ("kind", "".join(["a"])), A])), 2)
        self.check(book_of("every a is (r some a)"), [A, B, A, A, B])

    def test_there_and_mark(self):
        self.tells_just(book_of("thing x is a"), [], ("is", X, A), ("is", X, ANY))
        self.tells_just(book_of("thing x is anything"), [], ("is", X, ANY))

    def test_link(self):
        self.tells_just(book_of("thing x r y"), [], ("tied", X, "r", Y), ("is", X, ANY), ("is", Y, ANY))
        self.tells_just(book_of("thing x r x"), [], ("tied", X, "r", X), ("is", X, ANY))

    def test_under(self):
        self.tells_just(book_of("every a is b", "every b is c"), [A],
                        ("is", A, A), ("is", A, B), ("is", A, C), ("is", A, ANY))
        self.tells_just(book_of("every a is b", "every b is a"), [B], ("is", B, A), ("is", B, B), ("is", B, ANY))
        self.tells(book_of("same a as b"), [A, B], ("is", A, B), ("is", B, A))
        self.tells(book_of("thing x is a", "every anything is b", "every b is c"), [], ("is", X, B), ("is", X, C))

    def test_left_right_and_both(self):
        both = ("both", A, B)
        self.tells(book_of("thing x is (a and b)"), [], ("is", X, A), ("is", X, B), ("is", X, both))
        self.tells(book_of("thing x is a", "thing x is b"), [both], ("is", X, both), ("is", both, both))
        self.tells(book_of("thing x is a", "thing x is b", "every (b and a) is c"), [], ("is", X, ("both", B, A)), ("is", X, C))
        self.tells_just(book_of("thing x is a", "thing x is b"), [], ("is", X, A), ("is", X, B), ("is", X, ANY))
        self.tells(book_of("thing x is a", "every (a and a) is b"), [], ("is", X, B))
        self.tells(book_of("every (a and anything) is b"), [A], ("is", A, B))
        self.tells(book_of("every ((a and b) and (b and a)) is c"), [both], ("is", both, C))

    def test_out_and_in(self):
        some = ("some", "r", A)
        self.tells_just([], [some], ("is", some, some), ("is", some, ANY), ("tied", some, "r", A), ("is", A, A), ("is", A, ANY))
        self.tells(book_of("every a is b", "every (r some b) is c"), [some], ("is", some, ("some", "r", B)), ("is", some, C))
        self.tells(book_of("thing x r y", "thing y is a"), [some], ("is", X, some))
        self.tells(book_of("thing x r y", "every (r some anything) is b"), [], ("is", X, B))
        self.tells(book_of("every a is (r some a)", "every (r some (r some a)) is b"), [A], ("tied", A, "r", A), ("is", A, B))
        self.assertNotIn(("is", X, some), closing_of(book_of("thing x r y", "thing y is a"), [], []))

    def test_sub(self):
        self.tells(book_of("tie r is s", "tie s is t"), [("some", "r", A)], ("tied", ("some", "r", A), "t", A))
        self.tells(book_of("tie r is s", "thing x r y"), [], ("tied", X, "s", Y))
        self.tells(book_of("tie r is s", "thing x r y", "every (s some anything) is b"), [], ("is", X, B))

    def test_chain(self):
        self.tells(book_of("tie r s is t", "thing x r y", "thing y s z"), [], ("tied", X, "t", Z))
        self.tells(book_of("tie r s is t", "thing y s z", "thing x r y"), [], ("tied", X, "t", Z))
        self.tells(book_of("tie r runs on", "thing x r y", "thing y r z", "thing z r x"), [],
                   *[("tied", one, "r", other) for one in (X, Y, Z) for other in (X, Y, Z)])
        deep = ("some", "r", ("some", "s", A))
        self.tells(book_of("tie r s is t"), [deep], ("tied", deep, "t", A))
        self.tells(book_of("tie r s is t", "thing x r y", "thing y is (s some a)"), [], ("tied", X, "t", A))
        self.tells(book_of("tie r r is s", "thing x r x"), [], ("tied", X, "s", X))

    def test_void(self):
        self.tells(book_of("thing x r y", "thing y r z", "thing z is nothing"), [], ("is", Y, NONE), ("is", X, NONE))
        some = ("some", "r", ("some", "s", ("both", A, B)))
        self.tells(book_of("no a is b"), [some], ("is", some, NONE), ("is", some[2], NONE))
        self.tells(book_of("every a is (r some b)", "every b is nothing", "thing x is a"), [], ("is", X, NONE))
        self.tells([], [("some", "r", NONE)], ("is", ("some", "r", NONE), NONE))

    def test_nothing_tells_no_more(self):
        # Steps by all and fall are none of the closing's.
        self.tells_just(book_of("every a is nothing"), [A, B],
                        ("is", A, A), ("is", A, NONE), ("is", A, ANY), ("is", B, B), ("is", B, ANY))
        self.tells_just(book_of("thing x is nothing", "thing y is a"), [B],
                        ("is", X, NONE), ("is", X, ANY), ("is", Y, A), ("is", Y, ANY), ("is", B, B), ("is", B, ANY))

    def test_parts_of_asked_thoughts_are_no_subjects_by_themselves(self):
        told = {step[1][1] for step in self.check(book_of("every a is b"), [("both", A, C)])}
        self.assertEqual(told, {("both", A, C)})

    def test_one_name_of_three_sorts(self):
        self.check(book_of("thing a a a", "thing a is (a some a)", "every (a some a) is a", "tie a runs on"), [A])

    def test_granted_sayings(self):
        book = [(-1, ("link", "X", "r", "Y")), (0, ("link", "Y", "s", "Z"))] + book_of("tie r s is t", "tie t is r")
        self.tells(book, [], ("tied", ("thing", "X"), "t", ("thing", "Z")), ("tied", ("thing", "X"), "r", ("thing", "Z")))

    def test_the_same_saying_twice(self):
        self.check(book_of("every a is b", "every a is b", "thing x is a", "thing x is a", "thing x r y", "thing x r y"), [A])

    def test_many_made_ones(self):
        maker = Maker(17)
        for _ in range(250):
            self.check(maker.book(maker.upto(7), 2), [maker.thought(2) for _ in range(maker.upto(3))])

    def test_what_is_told_holds_in_worlds_that_keep_the_book(self):
        maker = Maker(170)
        kept = 0
        for _ in range(400):
            book = maker.book(3, 1)
            told = closed(book, [maker.thought(2), maker.thought(1)])
            for _ in range(6):
                marks, ties, spots = maker.world(1 + maker.upto(2), maker.upto(6))
                world = (marks, ties, [(name, maker.upto(len(marks) - 1)) for name in "xyz"])
                if all(row_holds(world, row) for number, saying in book for row in rows_of(saying)):
                    kept += 1
                    for step in told:
                        self.assertTrue(holds(world, step[1]), (book, world, step))
        self.assertGreater(kept, 150)


def row_holds(world, row):
    """Whether a plain row holds in a world in which each thing has a spot."""
    ties = set(world[1])
    if row[0] == "under":
        return holds(world, ("is", row[1], row[2]))
    if row[0] == "mark":
        return holds(world, ("is", ("thing", row[1]), row[2]))
    if row[0] == "link":
        return holds(world, ("tied", ("thing", row[1]), row[2], ("thing", row[3])))
    if row[0] == "sub":
        return all((p, row[2], q) in ties for p, r, q in ties if r == row[1])
    return all((p, row[3], z) in ties for p, r, q in ties if r == row[1] for m, s, z in ties if (m, s) == (q, row[2]))


def some_of_log(maker, log):
    """A log of some steps of the log and all that they came by."""
    kept = set()
    for _ in range(maker.upto(4)):
        if log:
            kept |= slow_needed(log, maker.upto(len(log) - 1))
    return without(log, kept)


def widened(maker, log):
    """The log with steps that no closing would tell: other thoughts by self, and boths of what it has."""
    log = list(log)
    for _ in range(maker.upto(3)):
        thought = maker.thought(2)
        add_step(log, ("self", ("is", thought, thought), (), None))
        found = [at for at, step in enumerate(log) if step[1][0] == "is"]
        one = maker.one(found)
        other = maker.one([at for at in found if log[at][1][1] == log[one][1][1]])
        both = ("both", log[one][1][2], log[other][1][2])
        add_step(log, ("both", ("is", log[one][1][1], both), (one, other), None))
    return log


def add_step(log, step):
    """Add the step unless its conclusion stands in the log."""
    if step[1] not in [kept[1] for kept in log]:
        log.append(step)


class BegunLogs(Checked):
    def test_none_and_an_empty_log(self):
        book = book_of("every a is (r some b)", "thing x is a")
        self.assertEqual({step[1] for step in closed(book, [A])}, {step[1] for step in closed(book, [A], [])})
        self.check(book, [A], [])
        self.check(book, [A], None)

    def test_its_own_log_again(self):
        book = book_of("every a is (r some b)", "tie r is s", "thing x is a", "every (s some b) is c")
        told = self.check(book, [A])
        self.assertEqual(self.check(book, [A], told), told)
        self.assertEqual(self.check(book, [], told), told)
        for many in range(len(told)):
            again = self.check(book, [A], told[:many])
            self.assertEqual({step[1] for step in again}, {step[1] for step in told})

    def test_subjects_and_thoughts_of_the_log_count(self):
        log = [("self", ("is", ("both", A, B), ("both", A, B)), (), None)]
        told = {step[1] for step in self.check(book_of("every a is c", "thing x is a", "thing x is b"), [], log)}
        self.assertIn(("is", ("both", A, B), C), told)
        self.assertIn(("is", ("both", A, B), ANY), told)
        self.assertIn(("is", X, ("both", A, B)), told)
        log = [("any", ("is", ("some", "r", A), ANY), (), None)]
        told = {step[1] for step in self.check(book_of("thing x r y", "thing y is a"), [], log)}
        self.assertIn(("is", X, ("some", "r", A)), told)
        self.assertIn(("is", ("some", "r", A), ("some", "r", A)), told)

    def test_an_end_of_a_tie_in_the_log_is_a_subject(self):
        some = ("some", "r", A)
        log = [("self", ("is", some, some), (), None), ("out", ("tied", some, "r", A), (0,), None)]
        told = {step[1] for step in self.check(book_of("every a is b"), [], log)}
        self.assertIn(("is", A, B), told)

    def test_steps_stay_as_they_are(self):
        # The log goes another way than the closing would, and its thoughts are wider than need be.
        book = book_of("every a is b", "every b is a", "same a as b")
        log = [
            ("self", ("is", A, A), (), None), ("under", ("is", A, B), (0,), 3),
            ("both", ("is", A, ("both", B, B)), (1, 1), None), ("left", ("is", ("both", A, C), A), (3,), None),
        ]
        log.insert(3, ("self", ("is", ("both", A, C), ("both", A, C)), (), None))
        self.assertTrue(right_log(book, log))
        told = self.check(book, [A, C], log)
        self.assertEqual(told[:5], log)

    def test_freed_logs(self):
        maker = Maker(171)
        for _ in range(40):
            book = maker.book(5, 2)
            asked = [maker.thought(2) for _ in range(maker.upto(2))]
            told = closed(book, asked)
            for number, saying in book:
                rest = [row for row in book if row[0] != number]
                self.check(rest, asked, freed(told, number))
                self.check(rest, [], freed(told, number))

    def test_freed_again_and_again(self):
        maker = Maker(172)
        for _ in range(15):
            book = maker.book(6, 2)
            asked = [maker.thought(2)]
            log = None
            while book:
                log = self.check(book, asked, log)
                number = maker.one(book)[0]
                log = freed(log, number)
                book = [row for row in book if row[0] != number]
            self.check([], asked, log)

    def test_parts_of_logs_and_wider_logs(self):
        maker = Maker(173)
        for _ in range(150):
            book = maker.book(1 + maker.upto(4), 2)
            told = closed(book, [maker.thought(2) for _ in range(3)])
            log = widened(maker, some_of_log(maker, told))
            self.assertTrue(right_log(book, log))
            self.check(book, [maker.thought(2) for _ in range(maker.upto(2))], log)

    def test_chains_as_logs(self):
        book = book_of("every a is (r some b)", "every b is c", "every (r some c) is b", "thing x is a", "tie r runs on")
        told = self.check(book, [A, B])
        for step in told:
            self.check(book, [C], chain(told, step[1]))


class Bounds(Checked):
    def test_forty_sayings(self):
        book = [(at + 1, ("every", kind(at), kind(at + 1))) for at in range(40)]
        asked = [kind(at) for at in range(41)]
        self.assertEqual(len(self.check(book, asked)), 41 * 42 // 2 + 41)
        self.assertEqual(len(self.check(book, [kind(0)])), 42)
        self.check([(at + 1, ("every", kind(at), kind((at + 1) % 40))) for at in range(40)], asked[:40])

    def test_forty_mixed_sayings(self):
        maker = Maker(174)
        for many in (40, 44):
            self.check(maker.book(many, 1), [maker.thought(1) for _ in range(4)])
        book = book_of(
            *[f"every k{letter} is (r some k{after})" for letter, after in zip("abcdefghij", "bcdefghijk")],
            *[f"thing t{letter} s t{after}" for letter, after in zip("abcdefghij", "bcdefghijk")],
            *[f"every (r some k{letter}) is m{letter}" for letter in "abcdefghijk"],
            "thing tk is ka", "tie r runs on", "tie s runs on", "tie s r is r", "tie r is q",
            "every mk is (q some anything)", "no ma is (mb and mc)", "every (q some mk) is n", "same n as o",
        )
        self.assertEqual(len(book), 40)
        told = {step[1] for step in self.check(book, [("kind", "ka"), ("kind", "n")])}
        self.assertIn(("is", ("thing", "ta"), ("kind", "mk")), told)
        self.assertIn(("tied", ("thing", "ta"), "q", ("kind", "kk")), told)

    def test_deep_thoughts(self):
        for many in (12, 13, 14):
            for thought, text in towers(many):
                self.check([(1, ("every", A, B)), (2, ("every", thought, C)), (3, ("thing", "x", thought))], [thought])
        deep = tied(12)[0]
        told = {step[1] for step in self.check([(1, ("every", A, ("some", "r", A))), (2, ("every", deep, B))], [A])}
        self.assertIn(("is", A, B), told)
        told = {step[1] for step in self.check([(1, ("no", leaning(12, True)[0], C))], [("both", ("both", A, B), C)])}
        self.assertIn(("is", ("both", ("both", A, B), C), NONE), told)

    def test_a_deep_log(self):
        deep = ("some", "r", tied(12)[0])
        log = [("self", ("is", deep, deep), (), None), ("out", ("tied", deep, "r", deep[2]), (0,), None)]
        told = {step[1] for step in self.check([(1, ("runs", "r"))], [], log)}
        self.assertIn(("tied", deep, "r", A), told)

    def test_three_hundred_parts(self):
        asked = [("some", "r", kind(at)) for at in range(149)]
        book = [(1, ("every", ("some", "r", ANY), kind(0))), (2, ("every", kind(0), kind(1)))]
        told = closed(book, asked)
        self.assertEqual({step[1] for step in told}, closing_of(book, asked, []))
        self.assertTrue(right_log(book, told[:500]))
        self.assertTrue(sound(book, told))

    def test_a_log_of_two_thousand_steps(self):
        names = "abcdefghijklmnopqrstuvwxyz"
        book = [(at + 1, ("link", "t" + names[at], "r", "t" + names[(at + 1) % 26])) for at in range(26)]
        book += [(27, ("runs", "r")), (28, ("tie", "r", "s")), (29, ("chain", "r", "s", "t")), (30, ("thing", "ta", NONE))]
        told = closed(book, [])
        self.assertGreater(len(told), 2000)
        self.assertTrue(sound(book, told))
        self.assertEqual({step[1] for step in told}, closing_of(book, [], []))
        log = freed(told, 30)
        self.assertGreater(len(log), 2000)
        self.assertEqual(closed(book[:-1], [], log), log)
        again = closed(book, [], log)
        self.assertEqual(again[:len(log)], log)
        self.assertEqual({step[1] for step in again}, {step[1] for step in told})
        self.assertTrue(sound(book, again))

    def test_a_long_way_from_step_to_step(self):
        # Far more steps stand one behind the other than calls may stand within one another.
        names = [first + second for first in "abcdefghijklmnopqrstuvwxyz" for second in "abcdefghij"]
        book = [(at + 1, ("link", "t" + one, "r", "t" + other)) for at, (one, other) in enumerate(zip(names, names[1:]))]
        book.append((len(names), ("thing", "t" + names[-1], NONE)))
        told = closed(book, [])
        self.assertIn(("is", ("thing", "t" + names[0]), NONE), [step[1] for step in told])
        self.assertTrue(sound(book, told))


class Owning(unittest.TestCase):
    BOOK = book_of("every a is (r some b)", "thing x is a", "tie r is s")

    def test_what_is_handed_in_stays(self):
        asked = [A, B, A]
        log = [("self", ("is", C, C), (), None)]
        kept = copy.deepcopy((self.BOOK, asked, log))
        told = closed(self.BOOK, asked, log)
        self.assertEqual((self.BOOK, asked, log), kept)
        told.clear()
        self.assertEqual((self.BOOK, asked, log), kept)

    def test_what_is_told_is_the_askers_own(self):
        for log in (None, [], [("self", ("is", C, C), (), None)]):
            first = closed(self.BOOK, [A], log)
            second = closed(self.BOOK, [A], log)
            kept = list(second)
            self.assertIsNot(first, log)
            first.clear()
            self.assertEqual(second, kept)
            self.assertEqual({step[1] for step in closed(self.BOOK, [A], log)}, {step[1] for step in kept})

    def test_nothing_is_left_over_for_the_next_asking(self):
        closed(self.BOOK, [A, B, C])
        self.assertEqual(closed([], []), [])
        self.assertEqual({step[1] for step in closed([], [C])}, {("is", C, C), ("is", C, ANY)})

    def test_changes_behind_the_call(self):
        book, asked, log = book_of("every a is b"), [A], [("self", ("is", A, A), (), None)]
        told = closed(book, asked, log)
        kept = list(told)
        book.append((2, ("every", B, C)))
        asked.append(C)
        log.clear()
        self.assertEqual(told, kept)
        again = {step[1] for step in closed(book, asked, log)}
        self.assertIn(("is", A, C), again)
        self.assertIn(("is", C, C), again)

    def test_what_is_told_is_made_of_plain_tuples(self):
        for step in closed(self.BOOK, [A, ("some", "r", B)]):
            self.assertEqual([type(step), type(step[0]), type(step[1]), type(step[2])], [tuple, str, tuple, tuple])
            self.assertIn(type(step[3]), (int, type(None)))


if __name__ == "__main__":
    unittest.main()
