"""Words above words, the nearest groups of two words, and the homes of things [30, 31, 27]."""

import copy
import unittest

from kindhall.asking import whether
from kindhall.closing import closed
from kindhall.errors import NoKind, NoThing
from kindhall.homes import above, homes, nearest
from kindhall.trees import tree
from tests.answered import logs_for, long_log
from tests.held import things_named
from tests.made import Maker
from tests.samples import A
from tests.test_closing import book_of, kind
from tests.test_trees import ANIMALS, WORDS, reached, slow_under

CROSSED = book_of("every a is c", "every a is d", "every b is c", "every b is d", "every c is e", "same d as dd", "every f is e")


def place_in(groups, word):
    return [place for place, group in enumerate(groups) if word in group][0]


def slow_lowest(edges, places):
    """Those of the places that one comes to from no other one of them."""
    return sorted(one for one in places if not any(one in reached(edges, other) for other in places if other != one))


def slow_nearest(told, one, other):
    groups, edges = told
    common = reached(edges, place_in(groups, one)) & reached(edges, place_in(groups, other))
    return slow_lowest(edges, common)


def slow_homes(book, thing):
    groups, edges = tree(book)
    borne = []
    for place, group in enumerate(groups):
        told = {whether(book, ("thing", thing, WORDS.get(word, ("kind", word)))) for word in group}
        assert len(told) == 1
        if True in told:
            borne.append(place)
    return slow_lowest(edges, borne)


class Above(unittest.TestCase):
    def test_animals(self):
        told = tree(ANIMALS)
        for word, words in (
            ("tomcat", ["animal", "anything", "cat", "pet"]), ("cat", ["animal", "anything", "pet"]),
            ("dog", ["animal", "anything", "hound"]), ("hound", ["animal", "anything", "dog"]), ("pet", ["anything"]),
            ("anything", []),
            ("nothing", ["animal", "anything", "cat", "dog", "hound", "person", "pet", "sphinx", "tomcat"]),
            ("sphinx", ["animal", "anything", "cat", "dog", "hound", "nothing", "person", "pet", "tomcat"]),
        ):
            self.assertEqual(above(told, word), words, word)

    def test_words_that_everything_is(self):
        told = tree(book_of("every anything is b", "every a is c"))
        self.assertEqual(above(told, "anything"), ["b"])
        self.assertEqual(above(told, "b"), ["anything"])
        self.assertEqual(above(told, "a"), ["anything", "b", "c"])

    def test_one_group(self):
        told = tree(book_of("thing x is nothing", "every a is b"))
        for word in ("a", "anything", "b", "nothing"):
            self.assertEqual(above(told, word), sorted({"a", "anything", "b", "nothing"} - {word}))

    def test_an_empty_book(self):
        self.assertEqual(above(tree([]), "anything"), [])
        self.assertEqual(above(tree([]), "nothing"), ["anything"])

    def test_two_ways_up_tell_a_word_once(self):
        self.assertEqual(above(tree(CROSSED), "a"), ["anything", "c", "d", "dd", "e"])

    def test_made_ones(self):
        maker = Maker(30)
        for _ in range(100):
            book = maker.book(maker.upto(8), 2)
            told = tree(book)
            under = slow_under(book)
            for group in told[0]:
                for word in group:
                    self.assertEqual(above(told, word), sorted(two for one, two in under if one == word != two))

    def test_words_in_no_group(self):
        for told in (tree([]), tree(ANIMALS)):
            for word in ("a", "", "Anything", "any", "none", "any thing", "tom", "abcdefghijklmnop"):
                with self.assertRaises(NoKind):
                    above(told, word)


class Nearest(unittest.TestCase):
    def check(self, told, one, other, words):
        found = nearest(told, one, other)
        self.assertEqual([told[0][place][0] for place in found], words, (one, other))
        self.assertEqual(nearest(told, other, one), found)
        self.assertEqual(slow_nearest(told, one, other), found)

    def test_one_group(self):
        told = tree(ANIMALS)
        self.check(told, "cat", "dog", ["animal"])
        self.check(told, "tomcat", "pet", ["pet"])
        self.check(told, "cat", "animal", ["animal"])
        self.check(told, "pet", "person", ["anything"])
        self.check(told, "anything", "nothing", ["anything"])
        self.check(told, "nothing", "dog", ["dog"])
        self.check(told, "nothing", "sphinx", ["nothing"])

    def test_alike_words_and_words_of_one_group(self):
        told = tree(ANIMALS)
        for word in ("cat", "dog", "pet", "anything", "nothing"):
            self.check(told, word, word, [word])
        self.check(told, "dog", "hound", ["dog"])
        self.check(told, "hound", "hound", ["dog"])

    def test_several_groups(self):
        told = tree(CROSSED)
        self.check(told, "a", "b", ["c", "d"])
        self.check(told, "a", "f", ["e"])
        self.check(told, "c", "d", ["anything"])
        told = tree(book_of("every a is (p and (q and o))", "every b is (o and (p and q))", "every q is n", "every p is n"))
        self.check(told, "a", "b", ["o", "p", "q"])

    def test_a_book_that_no_world_keeps(self):
        told = tree(book_of("thing x is nothing", "every a is b"))
        self.assertEqual(nearest(told, "a", "b"), [0])
        self.assertEqual(nearest(told, "anything", "nothing"), [0])

    def test_made_ones(self):
        maker = Maker(300)
        sizes = set()
        for _ in range(80):
            texts = []
            for _ in range(maker.upto(9)):
                texts.append(f"every {maker.one('abcdef')} is {maker.one(['c', 'd', 'e', 'f', '(c and d)', '(e and f)'])}")
            told = tree(book_of(*texts))
            words = [word for group in told[0] for word in group]
            for one in words:
                for other in words:
                    found = nearest(told, one, other)
                    self.assertEqual(found, slow_nearest(told, one, other))
                    sizes.add(len(found))
        self.assertGreater(len(sizes), 1)

    def test_words_in_no_group(self):
        told = tree(ANIMALS)
        for one, other in (("ant", "cat"), ("cat", "ant"), ("ant", "ant"), ("ant", "bee"), ("tom", "tomcat"), ("any", "cat"),
                           ("cat", ""), ("none", "none")):
            with self.assertRaises(NoKind):
                nearest(told, one, other)


class Homes(unittest.TestCase):
    def check(self, book, thing, words):
        found = homes(book, thing)
        self.assertEqual([tree(book)[0][place][0] for place in found], words, thing)
        self.assertEqual(slow_homes(book, thing), found)
        for log in (closed(book, []), closed(book, [A]), closed(book[:2], [])):
            self.assertEqual(homes(book, thing, log), found)

    def test_one_home(self):
        book = ANIMALS + [(20, ("link", "tom", "likes", "ann")), (21, ("thing", "rex", ("kind", "hound")))]
        self.check(book, "tom", ["tomcat"])
        self.check(book, "ann", ["anything"])
        self.check(book, "rex", ["dog"])

    def test_several_homes(self):
        book = CROSSED + book_of("thing x is (c and d)", "thing y is d", "thing y is f", "thing z is a", "thing w is (a and f)")
        book = [(at, saying) for at, (number, saying) in enumerate(book, 1)]
        self.check(book, "x", ["c", "d"])
        self.check(book, "y", ["d", "f"])
        self.check(book, "z", ["a"])
        self.check(book, "w", ["a", "f"])

    def test_by_way_of_ties(self):
        book = book_of("thing x r y", "thing y is a", "every (r some a) is b", "every b is c", "every d is (r some a)")
        self.check(book, "x", ["b"])
        self.check(book, "y", ["a"])

    def test_a_book_that_no_world_keeps(self):
        book = book_of("thing x is nothing", "thing y is a", "every b is c")
        for thing in ("x", "y"):
            self.assertEqual(homes(book, thing), [0])
            self.assertEqual(slow_homes(book, thing), [0])

    def test_words_that_everything_is(self):
        self.check(book_of("every anything is a", "thing x is b", "thing y r x"), "y", ["a"])
        self.check(book_of("every anything is a", "thing x is b", "thing y r x"), "x", ["b"])

    def test_made_ones(self):
        maker = Maker(31)
        sizes = set()
        for _ in range(150):
            book = maker.book(maker.upto(9), 2)
            for thing in sorted(things_named(book)):
                found = homes(book, thing)
                self.assertEqual(found, slow_homes(book, thing), (book, thing))
                sizes.add(len(found))
        self.assertLessEqual({1, 2}, sizes)

    def test_with_logs(self):
        maker = Maker(310)
        for _ in range(50):
            book = maker.book(1 + maker.upto(7), 2)
            for thing in sorted(things_named(book)):
                for log in logs_for(maker, book):
                    self.assertEqual(homes(book, thing, log), homes(book, thing))

    def test_things_that_the_book_does_not_name(self):
        for book in ([], ANIMALS, book_of("thing x is nothing"), book_of("every anything is nothing", "tie tim is tom")):
            for thing in ("tim", "", "cat", "anything", "X", "abcdefghijklmnop"):
                for log in (None, [], closed(book, [A])):
                    with self.assertRaises(NoThing):
                        homes(book, thing, log)


class Bounds(unittest.TestCase):
    def test_forty_sayings(self):
        for many in (40, 44):
            book = [(at + 1, ("every", kind(at), kind(at + 1))) for at in range(many - 1)] + [(many, ("thing", "x", kind(3)))]
            told = tree(book)
            self.assertEqual(len(above(told, kind(0)[1])), many)
            self.assertEqual(told[0][nearest(told, kind(5)[1], kind(9)[1])[0]], [kind(9)[1]])
            self.assertEqual([told[0][place] for place in homes(book, "x")], [[kind(3)[1]]])

    def test_three_hundred_kinds(self):
        book = []
        for at in range(30):
            thought = ("both", kind(10 * at), kind(10 * at + 1))
            for step in range(2, 10):
                thought = ("both", thought, kind(10 * at + step))
            book.append((at + 1, ("thing", "x", thought)))
        told = tree(book)
        self.assertEqual(len(told[0]), 302)
        self.assertEqual(len(homes(book, "x")), 300)
        self.assertEqual(len(above(told, "nothing")), 301)
        self.assertEqual(len(nearest(told, "nothing", "nothing")), 1)

    def test_a_log_of_two_thousand_steps(self):
        book, log = long_log()
        self.assertEqual(homes(book, "c", log), homes(book, "c"))


class Owning(unittest.TestCase):
    def test_what_is_handed_in_stays(self):
        told = tree(CROSSED)
        book = CROSSED + [(9, ("thing", "x", A))]
        log = closed(book, [])
        before = copy.deepcopy((told, book, log))
        above(told, "a").clear()
        nearest(told, "a", "b").clear()
        homes(book, "x").clear()
        homes(book, "x", log).clear()
        self.assertEqual((told, book, log), before)
        self.assertEqual(above(told, "f"), ["anything", "e"])

    def test_changes_behind_the_call(self):
        told = tree(book_of("every a is b"))
        words = above(told, "a")
        places = nearest(told, "a", "b")
        told[0].clear()
        told[1].clear()
        self.assertEqual((words, places), (["anything", "b"], [2]))
        with self.assertRaises(NoKind):
            above(told, "a")


if __name__ == "__main__":
    unittest.main()
