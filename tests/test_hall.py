"""Halls [36, 37]."""

import copy
import inspect
import unittest

from kindhall.asking import whether
from kindhall.building import least
from kindhall.errors import Full, HallError, NoSaying, NoText, NoThing, TooDeep, TooMany
from kindhall.hall import Hall
from kindhall.homes import homes
from kindhall.patterns import answers
from kindhall.reading import read_saying
from kindhall.showing import show_saying
from kindhall.trees import told_pairs, tree
from kindhall.whys import lean, why, whys
from tests.answered import Answered
from tests.held import all_kept, kept, things_named
from tests.made import Maker
from tests.samples import A, ANY, B, NONE, SAYINGS, tied
from tests.test_closing import kind
from tests.test_patterns import made_pattern
from tests.test_trees import slow_pairs, slow_tree

C = ("kind", "c")
DEEP = f"every {tied(13)[1]} is a"
WRONG = ["", "every a is", "every a is b ", " every a is b", "every a  is b", "every A is b", "all a is b", "thing x is", "tie r",
         "every every is b", "a", "(a and b)", "every abcdefghijklm is b", "no a are b", "thing x r", "1", "every (a and b is c"]


def hall_of(*texts):
    hall = Hall()
    for text in texts:
        hall.put(text)
    return hall


class Puts(unittest.TestCase):
    def test_an_empty_hall(self):
        hall = Hall()
        self.assertEqual(hall.book(), [])
        self.assertEqual(hall.pairs_now(), [])
        self.assertEqual(hall.tree_now(), ([["anything"], ["nothing"]], [(1, 0)]))
        self.assertEqual(hall.lean_now(), [])
        self.assertEqual(hall.least_now([]), (([], [], []), []))
        self.assertEqual(hall.answers_to([]), [()])
        self.assertIs(hall.ask("every a is a"), True)
        self.assertIs(hall.ask("every a is b"), False)
        self.assertEqual(hall.reasons([], "every a is a"), ([[]], []))
        with self.assertRaises(NoThing):
            hall.homes_of("x")

    def test_numbers_grow_by_one(self):
        hall = Hall()
        for number, (saying, text) in enumerate(SAYINGS, 1):
            told = hall.put(text)
            self.assertIs(type(told), tuple)
            self.assertEqual(told[0], number)
            self.assertEqual(hall.book()[-1], (number, saying))
        self.assertEqual(hall.book(), [(number, saying) for number, (saying, text) in enumerate(SAYINGS, 1)])

    def test_numbers_grow_whatever_was_taken_out(self):
        hall = hall_of("every a is b", "every b is c", "every c is d")
        hall.take(3)
        self.assertEqual(hall.put("every c is e")[0], 4)
        hall.take(1)
        hall.take(4)
        hall.take(2)
        self.assertEqual(hall.book(), [])
        self.assertEqual(hall.put("every a is b")[0], 5)
        self.assertEqual(hall.book(), [(5, ("every", A, B))])

    def test_the_same_text_twice(self):
        hall = hall_of("every a is b", "every a is b")
        self.assertEqual(hall.book(), [(1, ("every", A, B)), (2, ("every", A, B))])
        self.assertEqual(hall.take(1), [])
        self.assertIs(hall.ask("every a is b"), True)
        self.assertEqual(hall.take(2), [("a", "b")])
        self.assertIs(hall.ask("every a is b"), False)

    def test_gained_pairs(self):
        hall = Hall()
        for text, pairs in (
            ("every a is b", [("a", "b")]),
            ("every a is b", []),
            ("every b is c", [("a", "c"), ("b", "c")]),
            ("thing x is d", []),
            ("tie r is s", []),
            ("no d is d", [("d", "a"), ("d", "b"), ("d", "c")] + [(one, other) for one in "abc" for other in "abcd"
                                                                    if one != other and (one, other) not in (("a", "b"), ("a", "c"), ("b", "c"))]),
            ("thing y is e", [(one, other) for one in "abcde" for other in "abcde" if one != other and "e" in (one, other)]),
        ):
            told = hall.put(text)
            self.assertEqual(told[1], sorted(pairs), text)

    def test_lost_pairs(self):
        hall = hall_of("every a is b", "every b is c", "every c is a", "thing x is c")
        self.assertEqual(hall.take(3), [("b", "a"), ("c", "a"), ("c", "b")])
        self.assertEqual(hall.take(4), [])
        # The kind c stands in no saying any more.
        self.assertEqual(hall.take(2), [("a", "c"), ("b", "c")])
        self.assertEqual(hall.take(1), [("a", "b")])

    def test_lost_pairs_of_a_clash(self):
        hall = hall_of("thing x is a", "every a is b", "every a is nothing")
        self.assertEqual(hall.take(1), [("b", "a")])
        self.assertEqual(hall.take(3), [])
        hall = hall_of("thing x is nothing", "thing y is c", "every a is b")
        self.assertEqual(hall.take(2), [("a", "c"), ("b", "c"), ("c", "a"), ("c", "b")])
        self.assertEqual(hall.take(1), [("b", "a")])

    def test_made_ones(self):
        maker = Maker(36)
        for _ in range(20):
            hall = Hall()
            rows = {}
            latest = 0
            for _ in range(20):
                ahead = slow_pairs(sorted(rows.items()))
                if rows and maker.upto(2) == 0:
                    number = maker.one(sorted(rows))
                    del rows[number]
                    told = hall.take(number)
                    behind = slow_pairs(sorted(rows.items()))
                    self.assertEqual(told, [pair for pair in ahead if pair not in behind])
                else:
                    saying = maker.saying(2)
                    latest += 1
                    rows[latest] = saying
                    told = hall.put(show_saying(saying))
                    behind = slow_pairs(sorted(rows.items()))
                    self.assertEqual(told, (latest, [pair for pair in behind if pair not in ahead]))
                self.assertEqual(hall.book(), sorted(rows.items()))
                self.assertEqual(hall.pairs_now(), behind)
                self.assertEqual(hall.tree_now(), slow_tree(hall.book()))


class Refusals(unittest.TestCase):
    def check_unchanged(self, hall, refusal, ask):
        """Check that what is asked is refused so, and changes nothing and uses no number."""
        before = copy.deepcopy((hall.book(), hall.pairs_now(), hall.tree_now()))
        with self.assertRaises(HallError) as caught:
            ask()
        self.assertIs(type(caught.exception), refusal)
        self.assertEqual((hall.book(), hall.pairs_now(), hall.tree_now()), before)

    def test_texts_that_write_nothing(self):
        hall = hall_of("every a is b")
        for text in WRONG:
            self.check_unchanged(hall, NoText, lambda: hall.put(text))
        self.assertEqual(hall.put("every b is c")[0], 2)

    def test_texts_that_are_too_deep(self):
        hall = hall_of("every a is b")
        for text in (DEEP, "(((((((((((((", f"{DEEP} and so on"):
            self.check_unchanged(hall, TooDeep, lambda: hall.put(text))
        self.assertEqual(hall.put(f"every {tied(12)[1]} is a")[0], 2)

    def test_a_full_hall(self):
        hall = Hall()
        for number in range(1, 41):
            self.assertEqual(hall.put("every a is b")[0], number)
        self.check_unchanged(hall, Full, lambda: hall.put("every a is b"))
        self.check_unchanged(hall, Full, lambda: hall.put("thing x r y"))
        # A text that is refused by itself is refused so, even where the hall is full.
        self.check_unchanged(hall, NoText, lambda: hall.put("every a is"))
        self.check_unchanged(hall, TooDeep, lambda: hall.put(DEEP))
        hall.take(7)
        self.check_unchanged(hall, NoText, lambda: hall.put("every a is"))
        self.assertEqual(hall.put("every b is c"), (41, [("a", "c"), ("b", "c")]))
        self.check_unchanged(hall, Full, lambda: hall.put("every b is c"))
        self.assertEqual(len(hall.book()), 40)

    def test_numbers_that_do_not_stand(self):
        hall = hall_of("every a is b", "every b is c", "every c is d")
        for number in (4, 0, -1, 99, 10 ** 59, -3, -(10 ** 59)):
            self.check_unchanged(hall, NoSaying, lambda: hall.take(number))
        hall.take(2)
        self.check_unchanged(hall, NoSaying, lambda: hall.take(2))
        self.assertEqual(hall.put("every c is e")[0], 4)
        self.check_unchanged(hall, NoSaying, lambda: hall.take(2))
        self.check_unchanged(Hall(), NoSaying, lambda: Hall().take(1))

    def test_texts_that_are_asked(self):
        hall = hall_of("every a is b")
        for ask in (hall.ask, hall.grounds_of, hall.other_world, hall.reason, lambda text: hall.reasons([1], text),
                    lambda text: hall.reasons([], text)):
            for text in WRONG:
                self.check_unchanged(hall, NoText, lambda: ask(text))
            self.check_unchanged(hall, TooDeep, lambda: ask(DEEP))

    def test_a_text_is_read_ahead_of_all_else(self):
        hall = hall_of(*["every a is b"] * 10)
        for doubted in ([99], [0], list(range(1, 10)), list(range(20, 40))):
            self.check_unchanged(hall, NoText, lambda: hall.reasons(doubted, "every a is"))
            self.check_unchanged(hall, TooDeep, lambda: hall.reasons(doubted, DEEP))
        self.check_unchanged(hall, TooMany, lambda: hall.reasons(list(range(1, 10)), "every a is b"))
        self.check_unchanged(hall, TooMany, lambda: hall.reasons(list(range(20, 40)), "every a is b"))
        self.check_unchanged(hall, NoSaying, lambda: hall.reasons([11], "every a is b"))
        hall.take(3)
        self.check_unchanged(hall, NoSaying, lambda: hall.reasons([3], "every a is b"))

    def test_things_that_are_not_named(self):
        hall = hall_of("thing x is a")
        for thing in ("y", "", "a"):
            self.check_unchanged(hall, NoThing, lambda: hall.homes_of(thing))
        hall.take(1)
        self.check_unchanged(hall, NoThing, lambda: hall.homes_of("x"))


class Questions(Answered):
    def check_hall(self, hall, maker):
        """Check that the hall answers as its book read anew."""
        book = [(number, read_saying(show_saying(saying))) for number, saying in hall.book()]
        self.assertEqual(hall.pairs_now(), told_pairs(book))
        self.assertEqual(hall.tree_now(), tree(book))
        self.assertEqual(hall.tree_now(), slow_tree(book))
        for thing in sorted(things_named(book)):
            self.assertEqual(hall.homes_of(thing), homes(book, thing))
        pattern = made_pattern(maker, 1 + maker.upto(2))
        self.assertEqual(hall.answers_to(pattern), answers(book, pattern))
        self.check_any_one(hall, book, [maker.thought(2)])
        saying = maker.saying(2)
        text = show_saying(saying)
        self.assertIs(hall.ask(text), self.check_saying(book, saying))
        doubted = [number for number, saying in book][:4]
        self.assertEqual(hall.reasons(doubted, text), whys(book, doubted, saying))
        reason = hall.reason(text)
        if hall.ask(text):
            self.check_grounds(book, saying, hall.grounds_of(text))
            self.assertIsNone(hall.other_world(text))
            self.assertEqual(why([row for row in book if row[0] in reason], saying), reason)
        else:
            self.assertIsNone(hall.grounds_of(text))
            self.check_otherwise(book, saying, hall.other_world(text))
            self.assertIsNone(reason)

    def check_any_one(self, hall, book, asked):
        numbers = hall.lean_now()
        part = [row for row in book if row[0] in numbers]
        self.assertEqual(numbers, lean(part))
        self.assertTrue(all(whether(part, saying) for number, saying in book))
        told = hall.least_now(asked)
        if least(book, asked) is None:
            self.assertIsNone(told)
        else:
            self.assertTrue(all_kept(told[0], book))
            self.assertEqual(len(told[1]), len(asked))

    def test_behind_every_put_and_take(self):
        maker = Maker(37)
        for _ in range(15):
            hall = Hall()
            for _ in range(14):
                book = hall.book()
                if book and maker.upto(3) == 0:
                    hall.take(maker.one(book)[0])
                else:
                    hall.put(show_saying(maker.saying(2)))
                self.check_hall(hall, maker)

    def test_each_question(self):
        hall = hall_of("every cat is pet", "every pet is animal", "thing tom is cat", "every cat is animal", "thing tom likes ann")
        cat, pet, animal = ("kind", "cat"), ("kind", "pet"), ("kind", "animal")
        self.assertIs(hall.ask("thing tom is animal"), True)
        self.assertIs(hall.ask("thing ann is animal"), False)
        self.check_grounds(hall.book(), ("same", cat, ("both", cat, pet)), hall.grounds_of("same cat as (cat and pet)"))
        self.check_otherwise(hall.book(), ("every", pet, cat), hall.other_world("every pet is cat"))
        self.assertEqual(hall.reason("thing tom is pet"), [1, 3])
        self.assertEqual(hall.reasons([1, 2, 4], "thing tom is animal"), ([[1, 2], [4]], [[1, 4], [2, 4]]))
        self.assertEqual(hall.pairs_now(), [("cat", "animal"), ("cat", "pet"), ("pet", "animal")])
        self.assertEqual(hall.tree_now(), ([["animal"], ["anything"], ["cat"], ["nothing"], ["pet"]], [(0, 1), (2, 4), (3, 2), (4, 0)]))
        self.assertEqual(hall.homes_of("tom"), [2])
        self.assertEqual(hall.homes_of("ann"), [1])
        self.assertEqual(hall.answers_to([("tied", ("free", "u"), "likes", ("free", "v")), ("is", ("free", "u"), animal)]), [("tom", "ann")])
        self.assertEqual(hall.lean_now(), [1, 2, 3, 5])
        world, places = hall.least_now([animal, NONE])
        self.assertTrue(all_kept(world, hall.book()) and places[1] is None)
        self.assertEqual([world[0][place] for place in places[:1]], [["animal"]])

    def test_a_hall_whose_book_no_world_keeps(self):
        hall = hall_of("thing x is a", "no a is a")
        self.assertIs(hall.ask("tie r is s"), True)
        self.assertIsNone(hall.least_now([A]))
        self.assertIsNone(hall.other_world("every b is c"))
        hall.take(2)
        self.assertIs(hall.ask("tie r is s"), False)
        self.assertIsNotNone(hall.least_now([A]))

    def test_forty_sayings(self):
        hall = Hall()
        words = ["k" + kind(at)[1] for at in range(41)]
        for one, other in zip(words, words[1:]):
            hall.put(f"every {one} is {other}")
        self.assertIs(hall.ask(f"every {words[0]} is {words[40]}"), True)
        self.assertEqual(len(hall.pairs_now()), 41 * 40 // 2)
        self.assertEqual(len(hall.take(20)), 20 * 21)
        self.assertIs(hall.ask(f"every {words[0]} is {words[40]}"), False)
        self.assertEqual(len(hall.put(f"every {words[40]} is {words[0]}")[1]), 20 * 21)


class Owning(unittest.TestCase):
    TEXTS = ["every a is b", "thing x is a", "every b is c", "every a is (r some b)", "thing x r y"]

    def test_two_halls_know_nothing_of_each_other(self):
        one, other = hall_of("every a is b", "every b is c"), Hall()
        self.assertEqual(other.book(), [])
        self.assertEqual(other.put("every c is d"), (1, [("c", "d")]))
        self.assertEqual(one.put("every c is d")[0], 3)
        one.take(1)
        self.assertEqual(other.book(), [(1, ("every", C, ("kind", "d")))])
        self.assertIs(other.ask("every b is c"), False)
        self.assertIs(one.ask("every b is d"), True)

    def test_what_was_told_changed_by_the_asker(self):
        hall = hall_of(*self.TEXTS)
        before = copy.deepcopy((hall.book(), hall.pairs_now(), hall.tree_now()))
        hall.book().clear()
        hall.book().append((9, ("every", A, NONE)))
        hall.pairs_now().clear()
        groups, edges = hall.tree_now()
        groups[0].append("zz")
        groups.clear()
        edges.clear()
        hall.lean_now().clear()
        hall.homes_of("x").clear()
        hall.answers_to([("is", ("free", "u"), A)]).clear()
        for log in hall.grounds_of("thing x is c"):
            log.clear()
        hall.reason("thing x is c").clear()
        found, breaks = hall.reasons([1, 3], "thing x is c")
        found.clear()
        breaks[0].append(8)
        for world in (hall.other_world("every c is a"), hall.least_now([A])[0]):
            for part in (*world[0], *world):
                part.clear()
        self.assertEqual((hall.book(), hall.pairs_now(), hall.tree_now()), before)
        number, pairs = hall.put("every c is d")
        pairs.clear()
        self.assertEqual(hall.pairs_now(), slow_pairs(hall.book()))
        hall.take(number).clear()
        self.assertEqual((hall.book(), hall.pairs_now(), hall.tree_now()), before)
        self.assertIs(hall.ask("thing x is c"), True)

    def test_what_was_told_stays_as_it_was(self):
        hall = hall_of(*self.TEXTS)
        book, pairs, told = hall.book(), hall.pairs_now(), hall.tree_now()
        logs, world, leaned = hall.grounds_of("thing x is c"), hall.other_world("every c is a"), hall.lean_now()
        everything = (book, pairs, told, logs, world, leaned, hall.least_now([A]), hall.put("every c is d"), hall.take(3))
        before = copy.deepcopy(everything)
        for number in (1, 2, 4):
            hall.take(number)
        hall.put("thing x is nothing")
        hall.tree_now()
        self.assertEqual(everything, before)
        self.assertFalse(kept(world, ("every", C, A)))

    def test_what_is_handed_in_stays(self):
        hall = hall_of(*self.TEXTS)
        pattern, asked, doubted = [("is", ("free", "u"), A), ("tied", ("free", "u"), "r", ("free", "v"))], [A, ANY, NONE], [1, 2]
        before = copy.deepcopy((pattern, asked, doubted))
        hall.answers_to(pattern)
        hall.least_now(asked)
        hall.reasons(doubted, "thing x is c")
        self.assertEqual((pattern, asked, doubted), before)
        told = hall.answers_to(pattern)
        pattern.clear()
        self.assertEqual(told, [("x", "y")])

    def test_the_methods_of_the_class(self):
        takes = {name: list(inspect.signature(member).parameters)[1:] for name, member in vars(Hall).items() if inspect.isfunction(member)}
        for name, names in (
            ("put", ["text"]), ("take", ["number"]), ("book", []), ("ask", ["text"]), ("grounds_of", ["text"]),
            ("other_world", ["text"]), ("reason", ["text"]), ("reasons", ["doubted", "text"]), ("pairs_now", []), ("tree_now", []),
            ("homes_of", ["thing"]), ("answers_to", ["pattern"]), ("lean_now", []), ("least_now", ["asked"]), ("__init__", []),
        ):
            self.assertEqual(takes[name], names, name)


if __name__ == "__main__":
    unittest.main()
