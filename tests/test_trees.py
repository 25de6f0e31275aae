"""Words, told pairs and trees [28, 29, 27]."""

import copy
import itertools
import unittest

from kindhall.asking import whether
from kindhall.closing import closed
from kindhall.trees import told_pairs, tree
from tests.answered import logs_for, long_log
from tests.held import kinds_named
from tests.made import Maker
from tests.samples import A
from tests.test_closing import book_of, kind

WORDS = {"anything": ("any",), "nothing": ("none",)}
ANIMALS = book_of(
    "every cat is (pet and animal)", "every dog is animal", "same hound as dog", "every pet is (owned some person)",
    "no cat is dog", "every sphinx is (cat and dog)", "thing tom is tomcat", "every tomcat is cat", "every person is animal",
)


def slow_under(book):
    """The set of all pairs of words of which the first is under the second, asked one by one."""
    thoughts = {name: ("kind", name) for name in kinds_named(book)} | WORDS
    return {
        (one, other) for one in thoughts for other in thoughts
        if whether(book, ("every", thoughts[one], thoughts[other]))
    }


def slow_pairs(book):
    return sorted((one, other) for one, other in slow_under(book) if one != other and not {one, other} & set(WORDS))


def slow_tree(book):
    under = slow_under(book)
    words = {word for pair in under for word in pair}
    groups = {tuple(sorted(two for two in words if (one, two) in under and (two, one) in under)) for one in words}
    groups = sorted(list(group) for group in groups)
    lower = {
        (i, j) for i, one in enumerate(groups) for j, other in enumerate(groups)
        if i != j and (one[0], other[0]) in under
    }
    between = {(i, j) for i, k in lower for middle, j in lower if middle == k}
    return groups, sorted(lower - between)


def reached(edges, start):
    """The set of the places that one comes to from a place by edges, the place itself among them."""
    found = {start}
    while True:
        more = {j for i, j in edges if i in found} - found
        if not more:
            return found
        found |= more


class Checked(unittest.TestCase):
    def check(self, book, log=None):
        """Check the told pairs and the tree of a book; give the tree."""
        pairs = told_pairs(book, log)
        self.assertEqual(pairs, slow_pairs(book), book)
        told = tree(book, log)
        self.assertIs(type(told), tuple)
        self.assertEqual(told, slow_tree(book), book)
        groups, edges = told
        self.assertEqual(sorted(itertools.chain(*groups)), sorted(kinds_named(book) | set(WORDS)))
        self.assertEqual(groups, sorted(sorted(group) for group in groups))
        under = slow_under(book)
        for i, group in enumerate(groups):
            for one in group:
                above = {word for j in reached(edges, i) for word in groups[j]}
                self.assertEqual(above, {two for first, two in under if first == one})
        for edge in edges:
            self.assertNotIn(edge[1], reached([other for other in edges if other != edge], edge[0]))
        return told


class Trees(Checked):
    def test_an_empty_book(self):
        self.assertEqual(told_pairs([]), [])
        self.assertEqual(tree([]), ([["anything"], ["nothing"]], [(1, 0)]))
        self.check([])

    def test_a_book_without_kinds(self):
        self.assertEqual(self.check(book_of("tie r is s", "thing x r y")), ([["anything"], ["nothing"]], [(1, 0)]))
        self.assertEqual(self.check(book_of("every anything is nothing")), ([["anything", "nothing"]], []))

    def test_animals(self):
        groups, edges = self.check(ANIMALS)
        names = [group[0] for group in groups]
        self.assertEqual(groups, [["animal"], ["anything"], ["cat"], ["dog", "hound"], ["nothing", "sphinx"], ["person"],
                                  ["pet"], ["tomcat"]])
        self.assertEqual([(names[i], names[j]) for i, j in edges], [
            ("animal", "anything"), ("cat", "animal"), ("cat", "pet"), ("dog", "animal"), ("nothing", "dog"),
            ("nothing", "person"), ("nothing", "tomcat"), ("person", "animal"), ("pet", "anything"), ("tomcat", "cat"),
        ])
        pairs = told_pairs(ANIMALS)
        for pair in (("cat", "pet"), ("dog", "hound"), ("hound", "dog"), ("sphinx", "person"), ("sphinx", "tomcat"),
                     ("tomcat", "animal"), ("hound", "animal")):
            self.assertIn(pair, pairs)
        for pair in (("pet", "cat"), ("cat", "cat"), ("animal", "anything"), ("nothing", "cat"), ("cat", "sphinx"), ("pet", "person")):
            self.assertNotIn(pair, pairs)

    def test_kinds_that_stand_only_within_thoughts(self):
        groups, edges = self.check(book_of("tie r is s", "every (r some (a and (s some b))) is (t some c)"))
        self.assertEqual(groups, [["a"], ["anything"], ["b"], ["c"], ["nothing"]])
        self.assertEqual(edges, [(0, 1), (2, 1), (3, 1), (4, 0), (4, 2), (4, 3)])

    def test_kinds_that_stand_only_in_sayings_of_things(self):
        groups, edges = self.check(book_of("thing x is a", "thing y is (r some (b and c))", "thing x r y"))
        self.assertEqual(groups, [["a"], ["anything"], ["b"], ["c"], ["nothing"]])
        self.assertEqual(told_pairs(book_of("thing x is a", "thing x is b")), [])

    def test_names_of_ties_and_things_are_no_words(self):
        self.assertEqual(self.check(book_of("thing a b c", "tie d e is f", "thing a is g"))[0], [["anything"], ["g"], ["nothing"]])

    def test_kinds_each_under_the_other(self):
        book = book_of("every a is b", "every b is c", "every c is a", "every d is a", "every b is e")
        groups, edges = self.check(book)
        self.assertEqual(groups, [["a", "b", "c"], ["anything"], ["d"], ["e"], ["nothing"]])
        self.assertEqual(edges, [(0, 3), (2, 0), (3, 1), (4, 2)])
        self.assertEqual(len(told_pairs(book)), 6 + 3 + 3 + 1)

    def test_kinds_that_are_nothing(self):
        book = book_of("every a is nothing", "no b is b", "every c is (r some a)", "every d is e")
        groups, edges = self.check(book)
        self.assertEqual(groups, [["a", "b", "c", "nothing"], ["anything"], ["d"], ["e"]])
        self.assertEqual(edges, [(0, 2), (2, 3), (3, 1)])
        self.assertIn(("a", "e"), told_pairs(book))
        self.assertIn(("c", "b"), told_pairs(book))

    def test_kinds_that_everything_is(self):
        book = book_of("every anything is a", "same b as anything", "every c is d", "every (r some d) is e")
        groups, edges = self.check(book)
        self.assertEqual(groups, [["a", "anything", "b"], ["c"], ["d"], ["e"], ["nothing"]])
        self.assertEqual(edges, [(1, 2), (2, 0), (3, 0), (4, 1), (4, 3)])
        self.assertEqual(told_pairs(book), [("a", "b"), ("b", "a"), ("c", "a"), ("c", "b"), ("c", "d"), ("d", "a"), ("d", "b"),
                                            ("e", "a"), ("e", "b")])

    def test_a_book_that_no_world_keeps(self):
        book = book_of("thing x is a", "every b is c", "no a is (r some d)", "thing x r y", "thing y is d")
        groups, edges = self.check(book)
        self.assertEqual((groups, edges), ([["a", "anything", "b", "c", "d", "nothing"]], []))
        self.assertEqual(told_pairs(book), list(itertools.permutations("abcd", 2)))

    def test_ways_round(self):
        # From a one comes to d by b and by c, and straight on by a saying that is not needed.
        book = book_of("every a is b", "every a is c", "every b is d", "every c is d", "every a is d")
        groups, edges = self.check(book)
        self.assertEqual(edges, [(0, 2), (0, 3), (2, 4), (3, 4), (4, 1), (5, 0)])

    def test_by_way_of_ties(self):
        self.check(book_of("every a is (r some b)", "every b is (s some c)", "tie r s is t", "every (t some c) is d", "tie t is u"))

    def test_made_ones(self):
        maker = Maker(28)
        edges = set()
        for _ in range(150):
            edges.add(len(self.check(maker.book(maker.upto(8), 2))[1]))
        self.assertGreater(len(edges), 4)

    def test_with_logs(self):
        maker = Maker(29)
        for _ in range(25):
            book = maker.book(maker.upto(8), 2)
            for log in logs_for(maker, book):
                self.check(book, log)

    def test_sorted_as_texts_are(self):
        book = book_of("every ab is b", "every b is aa", "every a is nothing", "every zz is anythinga")
        self.assertEqual(tree(book)[0], [["a", "nothing"], ["aa"], ["ab"], ["anything"], ["anythinga"], ["b"], ["zz"]])
        self.check(book)


class Bounds(Checked):
    def test_forty_sayings(self):
        book = [(at + 1, ("every", kind(at), kind(at + 1))) for at in range(40)]
        groups, edges = tree(book)
        self.assertEqual((len(groups), len(edges), len(told_pairs(book))), (43, 42, 41 * 40 // 2))
        book = [(at + 1, ("every", kind(at), kind((at + 1) % 40))) for at in range(40)]
        self.assertEqual(len(tree(book)[0]), 3)
        maker = Maker(280)
        for many in (40, 44):
            self.check(maker.book(many, 1))

    def test_many_kinds(self):
        # Each of forty kinds is under six of its own, and under those of the kinds behind it.
        book = []
        for at in range(40):
            thought = kind((7 * at + 7) % 280)
            for step in range(1, 6):
                thought = ("both", thought, kind(7 * at + step))
            book.append((at + 1, ("every", kind(7 * at), thought)))
        groups, edges = tree(book[:-1])
        self.assertEqual(len(groups), 39 * 6 + 1 + 2)
        pairs = told_pairs(book[:-1])
        self.assertIn((kind(0)[1], kind(38 * 7 + 5)[1]), pairs)
        self.assertNotIn((kind(7)[1], kind(5)[1]), pairs)
        self.assertEqual(len(tree(book)[0]), 40 * 5 + 1 + 2)

    def test_a_log_of_two_thousand_steps(self):
        book, log = long_log()
        book.append((31, ("every", A, ("kind", "b"))))
        self.check(book, log)

    def test_deep_thoughts(self):
        for many in (12, 13):
            one = ("kind", "k")
            for at in range(many):
                one = ("both", kind(at), one)
            self.assertEqual(len(told_pairs([(1, ("every", A, one))])), many + 1)


class Owning(unittest.TestCase):
    def test_what_is_handed_in_stays(self):
        log = closed(ANIMALS, [A])
        before = copy.deepcopy((ANIMALS, log))
        for begun in (None, log):
            for ask in (told_pairs, tree):
                ask(ANIMALS, begun)
        self.assertEqual((ANIMALS, log), before)

    def test_what_is_told_is_the_askers_own(self):
        before = copy.deepcopy((told_pairs(ANIMALS), tree(ANIMALS)))
        told_pairs(ANIMALS).clear()
        groups, edges = tree(ANIMALS)
        for group in groups:
            group.append("zz")
        groups.clear()
        edges.clear()
        self.assertEqual((told_pairs(ANIMALS), tree(ANIMALS)), before)
        groups = tree(book_of("thing x is nothing", "every a is b"))[0]
        self.assertEqual(len(groups), 1)

    def test_changes_behind_the_call(self):
        book = book_of("every a is b")
        pairs, told = told_pairs(book), tree(book)
        before = copy.deepcopy((pairs, told))
        book.append((2, ("every", ("kind", "b"), A)))
        self.assertEqual((pairs, told), before)
        self.assertEqual(told_pairs(book), [("a", "b"), ("b", "a")])


if __name__ == "__main__":
    unittest.main()
