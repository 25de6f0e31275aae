"""When a saying follows, its grounds, and worlds without it [21, 22, 23, 27]."""

import copy
import unittest

from kindhall.asking import goal, granted, grounds, otherwise, whether
from kindhall.building import clash
from kindhall.chains import freed
from kindhall.closing import closed
from kindhall.reading import read_saying
from kindhall.rows import plain
from tests.answered import Answered, deepest, logs_for, long_log
from tests.held import all_kept, due_of, granted_of, kept, things_named
from tests.made import Maker
from tests.rules import right_log, rows_of
from tests.samples import A, ANY, B, NONE, SAYINGS, leaning, tied, towers
from tests.test_closing import book_of, kind

C = ("kind", "c")
LETTERS = "abcdefghijklmnopqrstuvwxyz"

# A family: parents are people, who is an ancestor of whom goes on, and so on.
FAMILY = book_of(
    "every parent is person", "same parent as (person and (hasc some person))", "tie hasc is desc", "tie desc runs on",
    "tie wed hasc is hasc", "no person is stone", "thing ann hasc bob", "thing bob hasc cyd", "thing dan wed ann",
    "thing ann is person", "thing bob is person", "thing dan is person", "every (desc some stone) is hall",
)


class Rows(unittest.TestCase):
    ROWS = [
        (("under", A, B), [], ("is", A, B)),
        (("under", ("both", A, B), NONE), [], ("is", ("both", A, B), NONE)),
        (("mark", "x", A), [], ("is", ("thing", "x"), A)),
        (("link", "x", "r", "y"), [], ("tied", ("thing", "x"), "r", ("thing", "y"))),
        (("link", "x", "r", "x"), [], ("tied", ("thing", "x"), "r", ("thing", "x"))),
        (("sub", "r", "s"), [(0, ("link", "X", "r", "Y"))], ("tied", ("thing", "X"), "s", ("thing", "Y"))),
        (("sub", "r", "r"), [(0, ("link", "X", "r", "Y"))], ("tied", ("thing", "X"), "r", ("thing", "Y"))),
        (("chain", "r", "s", "t"), [(-1, ("link", "X", "r", "Y")), (0, ("link", "Y", "s", "Z"))],
         ("tied", ("thing", "X"), "t", ("thing", "Z"))),
        (("chain", "r", "r", "r"), [(-1, ("link", "X", "r", "Y")), (0, ("link", "Y", "r", "Z"))],
         ("tied", ("thing", "X"), "r", ("thing", "Z"))),
    ]

    def test_each_sort_of_row(self):
        for row, sayings, conclusion in self.ROWS:
            with self.subTest(row=row):
                self.assertEqual(granted(row), sayings)
                self.assertEqual(goal(row), conclusion)

    def test_rows_of_sayings(self):
        for saying, text in SAYINGS:
            for row in plain(saying):
                self.assertEqual(granted(row), granted_of(row), text)
                self.assertEqual(goal(row), due_of(row), text)

    def test_the_list_is_the_askers_own(self):
        for row, sayings, conclusion in self.ROWS:
            granted(row).append(1)
            self.assertEqual(granted(row), sayings)


class Follows(Answered):
    def test_an_empty_book(self):
        self.follow(
            [], "every a is a", "every a is anything", "every nothing is a", "same a as (a and a)",
            "same (a and b) as (b and a)", "every (r some (a and b)) is ((r some a) and (r some b))", "no a is nothing",
            "no (r some nothing) is a", "same (r some nothing) as nothing", "same (a and anything) as a", "tie r is r",
            "every (r some a) is (r some anything)", "no nothing is anything",
        )
        self.follow_not(
            [], "every a is b", "same a as (a and b)", "every ((r some a) and (r some b)) is (r some (a and b))",
            "no a is a", "no a is b", "no anything is anything", "every anything is nothing", "tie r is s",
            "tie r runs on", "tie r s is t", "tie r r is s", "thing x is anything", "thing x is nothing", "thing x r x",
            "thing x r y", "every a is (r some anything)", "every (r some a) is (s some a)", "same anything as nothing",
        )

    def test_every(self):
        self.follow(
            FAMILY, "every parent is (hasc some person)", "every (person and (hasc some parent)) is parent",
            "every parent is (desc some person)", "every (hasc some (hasc some a)) is (desc some a)",
            "every (wed some parent) is (hasc some person)", "every (hasc some (desc some stone)) is hall",
            "every (person and stone) is parent",
        )
        self.follow_not(
            FAMILY, "every person is parent", "every (desc some person) is parent", "every (hasc some person) is person",
            "every hall is (desc some stone)", "every (desc some (hasc some a)) is (hasc some a)",
            "every (hasc some (wed some a)) is (hasc some a)", "every anything is person", "every other is parent",
        )

    def test_same(self):
        self.follow(
            FAMILY, "same parent as (parent and (desc some person))", "same (stone and person) as nothing",
            "same (hasc some (person and stone)) as (stone and (person and hall))", "same a as a",
        )
        # One way holds, the other one not; and neither way.
        self.follow_not(FAMILY, "same parent as person", "same person as parent", "same a as b", "same a as nothing")

    def test_no(self):
        self.follow(
            FAMILY, "no parent is stone", "no stone is parent", "no (hasc some (stone and parent)) is anything",
            "no anything is (desc some (wed some (person and stone)))",
        )
        self.follow_not(FAMILY, "no parent is hall", "no parent is parent", "no (hasc some stone) is person", "no a is a")

    def test_nothing_by_way_of_ties(self):
        book = book_of("every a is (r some b)", "every b is (s some c)", "tie r s is t", "every (t some c) is nothing")
        self.follow(
            book, "every a is nothing", "no a is d", "no a is a", "same a as nothing", "every a is (q some d)",
            "no (r some (s some c)) is anything", "no (q some a) is b",
        )
        self.follow_not(book, "every b is nothing", "no b is c", "no (s some c) is d", "no (r some c) is c")

    def test_ties_that_cannot_be(self):
        book = book_of("every (r some anything) is nothing", "tie s s is r", "tie t is r")
        self.follow(book, "tie r is q", "tie r q is s", "tie q r is s", "tie s s is q", "tie t is q", "tie r runs on", "tie s runs on")
        self.follow_not(book, "tie s is r", "tie s is q", "tie s q is r", "tie q runs on", "tie q is r", "thing x r y")
        book = book_of("no (r some a) is b", "every anything is (a and b)")
        self.follow(book, "tie r is s", "tie r s is t", "tie s r is t", "no (r some anything) is anything")
        self.follow_not(book, "tie s is r")

    def test_ties(self):
        book = book_of("tie r is s", "tie s is t", "tie t t is u", "tie u is r", "tie q q is q")
        self.follow(
            book, "tie r is t", "tie r is s", "tie r s is u", "tie t r is r", "tie u u is u", "tie r runs on", "tie u runs on",
            "tie q runs on", "tie t runs on", "tie q q is q",
        )
        self.follow_not(
            book, "tie s is r", "tie t is u", "tie u q is u", "tie q u is q", "tie q is r", "tie q q is r", "tie p runs on",
        )

    def test_chains_that_run_on(self):
        book = book_of(
            "tie part runs on", "thing a part b", "thing b part c", "thing c part d", "thing d part e",
            "thing e is big", "every (part some big) is small", "tie part lies is lies", "thing d lies f",
        )
        self.follow(
            book, "thing a part e", "thing a part d", "thing a is small", "thing d is small", "thing a lies f", "thing b lies f",
            "thing a is (part some (lies some anything))", "every (part some (part some big)) is small",
            "every (part some (part some (lies some z))) is (lies some z)",
        )
        self.follow_not(
            book, "thing e part a", "thing a part a", "thing e is small", "thing e lies f", "thing f lies f", "thing a is big",
            "every (lies some (part some z)) is (lies some z)",
        )

    def test_things(self):
        self.follow(
            FAMILY, "thing ann is parent", "thing dan is (wed some parent)", "thing ann is anything", "thing cyd is anything",
            "thing ann is (person and (desc some anything))", "thing dan is parent",
        )
        self.follow_not(
            FAMILY, "thing cyd is person", "thing cyd is nothing", "thing bob is parent", "thing ann is stone",
            "thing dan is (hasc some parent)", "thing eve is anything", "thing eve is (hasc some person)", "thing parent is parent",
        )

    def test_two_things(self):
        self.follow(FAMILY, "thing ann desc cyd", "thing dan desc cyd", "thing dan hasc bob", "thing bob desc cyd")
        self.follow_not(
            FAMILY, "thing ann hasc cyd", "thing cyd desc ann", "thing ann desc ann", "thing ann hasc eve", "thing eve desc ann",
            "thing eve desc eve", "thing ann wed dan", "thing dan hasc ann", "thing ann other bob",
        )

    def test_being_tied_to_some_is_no_tie_to_a_thing(self):
        book = book_of("thing x is (r some a)", "thing y is a", "every a is b")
        self.follow(book, "thing x is (r some b)")
        self.follow_not(book, "thing x r y", "thing y is (r some a)", "thing y r y")

    def test_a_book_that_no_world_keeps(self):
        for texts in (
            ["thing x is nothing"], ["thing x r y", "thing y is a", "every a is nothing"],
            ["thing x is a", "thing x is b", "no a is b"], ["thing x is anything", "no anything is anything"],
            ["thing x r y", "thing y s z", "tie r s is t", "no anything is (t some anything)"],
            ["thing x is (r some a)", "no (r some anything) is anything", "thing y is b"],
        ):
            book = book_of(*texts)
            self.follow(
                book, "every a is c", "same a as b", "same anything as nothing", "no anything is c", "tie q is p", "tie q p is o",
                "tie q runs on", "thing x is nothing", "thing x is c", "thing w is anything", "thing w is nothing", "thing v q w",
                "thing x q w", "thing w q x", "thing x q y",
            )

    def test_a_book_that_names_no_thing_has_a_world(self):
        book = book_of("every anything is nothing", "tie r is s")
        self.follow(book, "every a is b", "no a is a", "same a as b", "tie q is p", "tie q p is o", "tie s is r")
        self.follow_not(book, "thing x is anything", "thing x is nothing", "thing x r y", "thing x r x")

    def test_things_and_their_kinds_tell_nothing_of_all(self):
        book = book_of("thing x is a", "thing x is b", "thing x r x")
        self.follow_not(book, "every a is b", "every anything is a", "every a is (r some a)", "tie s is r", "thing x s x")

    def test_one_name_of_three_sorts(self):
        book = book_of("thing a a b", "thing b is a", "every (a some a) is b")
        self.follow(book, "thing a is b")
        self.follow_not(book, "thing b is b", "thing a is a", "thing b a a", "every a is b")

    def test_each_saying_of_the_book(self):
        maker = Maker(21)
        for _ in range(60):
            book = maker.book(1 + maker.upto(6), 2)
            for number, saying in book:
                self.assertTrue(self.check_saying(book, saying))

    def test_many_made_ones(self):
        maker = Maker(210)
        seen = set()
        for _ in range(1200):
            book = maker.book(maker.upto(8), 2)
            saying = maker.saying(2)
            seen.add((saying[0], self.check_saying(book, saying), clash(book) is None))
        # All eight sorts come, following and not, of books with a world, and following of those without.
        self.assertEqual(len(seen), 24)

    def test_what_follows_holds_in_all_small_worlds(self):
        maker = Maker(211)
        held = 0
        for _ in range(400):
            book, saying = maker.book(3, 1), maker.saying(1)
            if whether(book, saying):
                for _ in range(10):
                    world = maker.world(1 + maker.upto(2), maker.upto(6))
                    if all_kept(world, book):
                        held += 1
                        self.assertTrue(kept(world, saying), (book, saying, world))
        self.assertGreater(held, 100)


class Grounds(Answered):
    def test_same_has_two_logs_in_their_order(self):
        book = book_of("every a is b", "every b is c", "every c is a")
        one, other = grounds(book, ("same", A, B))
        self.assertEqual((one[-1][1], other[-1][1]), (("is", A, B), ("is", B, A)))
        self.assertEqual({step[3] for step in one} - {None}, {1})
        self.assertEqual({step[3] for step in other} - {None}, {2, 3})
        self.check_grounds(book, ("same", A, B), [one, other])

    def test_one_way_alone_is_none(self):
        book = book_of("every a is b")
        self.assertIsNone(grounds(book, ("same", A, B)))
        self.assertIsNone(grounds(book, ("same", B, A)))

    def test_all_other_sorts_have_one_log(self):
        book = book_of("thing x is nothing")
        for saying, text in SAYINGS:
            self.assertEqual(len(grounds(book, saying)), 2 if saying[0] == "same" else 1, text)
            self.check_grounds(book, saying, grounds(book, saying))

    def test_granted_ones_are_used(self):
        book = book_of("tie r is s", "tie s s is t")
        self.assertEqual({step[3] for step in grounds(book, ("tie", "r", "s"))[0]}, {0, 1})
        self.assertEqual({step[3] for step in grounds(book, ("chain", "s", "r", "t"))[0]}, {-1, 0, 1, 2})
        self.assertEqual({step[3] for step in grounds(book, ("chain", "r", "r", "t"))[0]}, {-1, 0, 1, 2})

    def test_no_step_too_many(self):
        # Each step but the last one is gone by.
        maker = Maker(22)
        for _ in range(150):
            book, saying = maker.book(6, 2), maker.saying(2)
            for log in grounds(book, saying) or []:
                used = {place for step in log for place in step[2]}
                self.assertEqual(used, set(range(len(log) - 1)))

    def test_none_where_it_does_not_follow(self):
        for saying in (("every", A, B), ("same", A, B), ("no", A, B), ("tie", "r", "s"), ("chain", "r", "s", "t"), ("runs", "r"),
                       ("thing", "x", A), ("link", "x", "r", "y")):
            self.assertIsNone(grounds([], saying))
            self.assertIsNone(grounds(book_of("thing y is b", "every b is c", "tie s is r"), saying))

    def test_deep_thoughts(self):
        for many in (12, 13):
            deep = tied(many)[0]
            book = [(1, ("every", A, ("some", "r", A))), (2, ("every", deep, B)), (3, ("thing", "x", A))]
            self.assertTrue(self.check_saying(book, ("every", A, B)))
            self.assertTrue(self.check_saying(book, ("thing", "x", deep)))
            self.assertFalse(self.check_saying(book, ("every", B, deep)))
            self.assertFalse(self.check_saying(book, ("no", deep, deep)))
            self.assertLessEqual(deepest(grounds(book, ("every", A, B))[0]), 40)
            for thought, text in towers(many):
                for saying in (("every", thought, A), ("every", A, thought), ("same", thought, thought), ("no", thought, NONE),
                               ("no", thought, B), ("thing", "x", thought)):
                    self.check_saying(book, saying)
        one, other = leaning(12, True)[0], leaning(12, False)[0]
        self.assertTrue(self.check_saying([], ("same", one, other)))
        self.assertTrue(self.check_saying([(1, ("no", A, B))], ("same", one, NONE)))


class Worlds(Answered):
    def test_of_each_sort(self):
        book = book_of("thing x is a", "every a is (r some b)", "tie r is s")
        for text in (
            "every b is a", "same a as (r some b)", "no a is b", "tie s is r", "tie r s is r", "tie s runs on", "thing x is b",
            "thing y is a", "thing x r x", "thing x r y", "thing y r x", "thing y r z",
        ):
            saying = read_saying(text)
            self.check_otherwise(book, saying, otherwise(book, saying))

    def test_no_spots_of_granted_ones(self):
        for saying in (("tie", "r", "s"), ("chain", "r", "s", "t"), ("runs", "r")):
            self.assertEqual(otherwise([], saying)[2], [])
            world = otherwise(book_of("thing x r y", "thing z is a"), saying)
            self.assertEqual([thing for thing, point in world[2]], ["x", "y", "z"])

    def test_a_thing_that_the_book_does_not_name_has_no_spot(self):
        for book in ([], book_of("thing y is a"), book_of("thing y r z", "every anything is a")):
            for saying in (("thing", "x", ANY), ("link", "x", "r", "x"), ("link", "y", "r", "x"), ("link", "x", "r", "y")):
                world = otherwise(book, saying)
                self.check_otherwise(book, saying, world)
                self.assertNotIn("x", dict(world[2]))

    def test_an_empty_world_may_do(self):
        book = book_of("every anything is nothing")
        self.assertEqual(otherwise(book, ("thing", "x", ANY)), ([], [], []))

    def test_none_where_it_follows(self):
        self.assertIsNone(otherwise([], ("every", A, A)))
        self.assertIsNone(otherwise(book_of("every a is b", "every b is a"), ("same", A, B)))
        self.assertIsNone(otherwise(book_of("thing x is nothing"), ("thing", "y", A)))

    def test_few_points(self):
        # The bound is met where each part and each granted thing needs a point of its own.
        book = book_of("thing x is (r some a)", "thing y is (r some (s some b))")
        world = otherwise(book, ("chain", "t", "t", "t"))
        self.check_otherwise(book, ("chain", "t", "t", "t"), world)
        self.assertLessEqual(len(world[0]), 8)


class Logs(Answered):
    def test_made_ones(self):
        maker = Maker(27)
        for _ in range(120):
            book, saying = maker.book(1 + maker.upto(6), 2), maker.saying(2)
            told = self.check_saying(book, saying)
            for log in logs_for(maker, book):
                self.assertIs(self.check_saying(book, saying, log), told, (book, saying, log))

    def test_a_log_whose_steps_go_another_way(self):
        book = book_of("every a is b", "every a is (b and b)", "thing x is a")
        log = [("self", ("is", A, A), (), None), ("under", ("is", A, ("both", B, B)), (0,), 2), ("left", ("is", A, B), (1,), None)]
        told = grounds(book, ("every", A, B), log)
        self.check_grounds(book, ("every", A, B), told)
        self.assertEqual(told, [log])

    def test_thoughts_of_the_log_are_no_answers(self):
        wide = ("some", "q", ("both", C, ("some", "r", NONE)))
        log = [("self", ("is", wide, wide), (), None)]
        for saying in (("every", A, B), ("thing", "x", C), ("thing", "y", ANY), ("tie", "r", "s"), ("chain", "r", "s", "t")):
            self.assertFalse(self.check_saying(book_of("thing x is a"), saying, log))
        self.assertTrue(self.check_saying([], ("every", wide, NONE), log))

    def test_a_log_freed_of_a_saying(self):
        book = book_of("every a is b", "every b is c", "thing x is a", "tie r is s", "thing x r y")
        told = closed(book, [A])
        for number, saying in book:
            rest = [row for row in book if row[0] != number]
            log = freed(told, number)
            for text in ("every a is c", "thing x is c", "thing x is b", "tie r is s", "thing x s y", "same a as b"):
                asked = read_saying(text)
                self.assertIs(self.check_saying(rest, asked, log), whether(rest, asked), (number, text))

    def test_grounds_and_clashes_handed_in_again(self):
        maker = Maker(270)
        handed = 0
        for _ in range(300):
            book, saying = maker.book(6, 2), maker.saying(2)
            if saying[0] in ("every", "same", "no", "thing", "link"):
                for log in grounds(book, saying) or []:
                    if log[-1][0] not in ("all", "fall"):
                        handed += 1
                        self.assertTrue(self.check_saying(book, saying, log))
                        self.check_saying(book, maker.saying(2), log)
        self.assertGreater(handed, 20)


class Bounds(Answered):
    def test_forty_sayings(self):
        book = [(at + 1, ("every", kind(at), kind(at + 1))) for at in range(40)]
        self.assertTrue(self.check_saying(book, ("every", kind(0), kind(40))))
        self.assertFalse(self.check_saying(book, ("every", kind(40), kind(0))))
        book = [(at + 1, ("link", "t" + LETTERS[at % 26], "r", "t" + LETTERS[(at + 1) % 26])) for at in range(25)]
        book += [(26, ("runs", "r")), (27, ("tie", "r", "s")), (28, ("thing", "tz", A)), (29, ("every", ("some", "s", A), B))]
        self.assertTrue(self.check_saying(book, ("link", "ta", "s", "tz")))
        self.assertTrue(self.check_saying(book, ("thing", "ta", B)))
        self.assertFalse(self.check_saying(book, ("thing", "tz", B)))
        self.assertFalse(self.check_saying(book, ("link", "tb", "s", "ta")))
        self.assertFalse(self.check_saying(book, ("chain", "s", "s", "r")))

    def test_forty_made_sayings_and_more(self):
        maker = Maker(212)
        for many in (40, 41, 45):
            for _ in range(4):
                book = [row for row in maker.book(many + 60, 1) if row[1][0] not in ("no",)]
                book = [(number, saying) for number, saying in book if ("none",) not in saying[1:]][:many]
                for _ in range(4):
                    self.check_saying(book, maker.saying(2))

    def test_numbers_of_many_figures(self):
        book = [(10 ** 20, ("every", A, B)), (10 ** 59, ("every", B, C)), (10 ** 60 - 1, ("thing", "x", A))]
        self.assertTrue(self.check_saying(book, ("every", A, C)))
        self.assertEqual({step[3] for step in grounds(book, ("thing", "x", C))[0]}, {10 ** 20, 10 ** 59, 10 ** 60 - 1})

    def test_three_hundred_parts(self):
        book = [(at + 1, ("every", ("some", "r", kind(3 * at)), ("some", "s", ("both", kind(3 * at + 1), kind(3 * at + 3)))))
                for at in range(40)]
        book[39] = (40, ("tie", "s", "r"))
        self.assertTrue(self.check_saying(book, ("every", ("some", "r", kind(0)), ("some", "s", kind(117)))))
        self.assertFalse(self.check_saying(book, ("every", ("some", "s", kind(117)), ("some", "r", kind(0)))))

    def test_a_log_of_two_thousand_steps(self):
        book, log = long_log()
        self.assertEqual(len(log), 2000)
        for text, told in (("thing a t b", True), ("thing d is (t some a)", True), ("thing d is a", False), ("tie r s is t", True),
                           ("tie t is r", False), ("every (r some a) is (s some a)", True), ("thing a q b", False)):
            self.assertIs(whether(book, read_saying(text), log), told, text)
            self.assertIs(self.check_saying(book, read_saying(text), log), told, text)

    def test_a_way_longer_than_calls_may_be_nested(self):
        names = [first + second for first in LETTERS for second in LETTERS[:10]]
        book = [(at + 1, ("every", ("kind", "k" + one), ("kind", "k" + other))) for at, (one, other) in enumerate(zip(names, names[1:]))]
        self.assertTrue(self.check_saying(book, ("every", ("kind", "kaa"), ("kind", "k" + names[-1]))))


class Owning(unittest.TestCase):
    BOOK = book_of("every a is (r some b)", "thing x is a", "tie r is s", "thing x r y", "tie r r is r", "same b as c")
    TEXTS = ["every a is (s some b)", "same b as c", "no a is b", "tie r is s", "tie s is r", "tie r runs on", "thing y is b",
             "thing x is (r some c)", "thing x s y", "thing y r x"]

    def test_what_is_handed_in_stays(self):
        log = closed(self.BOOK, [A])
        before = copy.deepcopy((self.BOOK, log))
        for text in self.TEXTS:
            for begun in (None, log):
                for ask in (whether, grounds, otherwise):
                    ask(self.BOOK, read_saying(text), begun)
                    self.assertEqual((self.BOOK, log), before)

    def test_what_is_told_is_the_askers_own(self):
        log = closed(self.BOOK, [A])
        for text in self.TEXTS:
            saying = read_saying(text)
            for begun in (None, log):
                told = grounds(self.BOOK, saying, begun)
                world = otherwise(self.BOOK, saying, begun)
                if told is not None:
                    for one in told:
                        one.clear()
                    self.assertTrue(all(right_log(granted_of(row) + self.BOOK, one)
                                        for row, one in zip(rows_of(saying), grounds(self.BOOK, saying, begun))))
                    self.assertTrue(all(grounds(self.BOOK, saying, begun)))
                else:
                    again = copy.deepcopy(world)
                    for part in world[0]:
                        part.append("zz")
                    for part in world:
                        part.clear()
                    self.assertTrue(all_kept(again, self.BOOK))
                    world = otherwise(self.BOOK, saying, begun)
                    self.assertTrue(all_kept(world, self.BOOK) and not kept(world, saying))

    def test_changes_behind_the_call(self):
        book = book_of("every a is b")
        self.assertIs(whether(book, ("every", A, C)), False)
        world = otherwise(book, ("every", A, C))
        before = copy.deepcopy(world)
        book.append((2, ("every", B, C)))
        self.assertIs(whether(book, ("every", A, C)), True)
        told = grounds(book, ("every", A, C))
        logs = copy.deepcopy(told)
        book.clear()
        self.assertIs(whether(book, ("every", A, C)), False)
        self.assertEqual((world, told), (before, logs))

    def test_things_are_no_leftovers(self):
        self.assertTrue(whether(book_of("thing x is nothing"), ("thing", "y", A)))
        self.assertFalse(whether([], ("thing", "y", A)))
        self.assertEqual(things_named(book_of("thing x r y")), {"x", "y"})


if __name__ == "__main__":
    unittest.main()
