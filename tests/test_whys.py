"""Whys, breaks, needless numbers and lean lists [32, 34, 35]."""

import copy
import itertools
import unittest

from kindhall.asking import whether
from kindhall.crossings import crossings
from kindhall.errors import NoSaying, TooMany
from kindhall.reading import read_saying
from kindhall.whys import lean, needless, why, whys
from tests.made import Maker
from tests.samples import A, ANY, B, NONE, tied
from tests.test_closing import book_of, kind
from tests.test_crossings import least_sets, slow_crossings

C = ("kind", "c")
TWO_WAYS = book_of("every a is b", "every b is c", "every a is d", "every d is c", "thing x is a", "every b is d", "tie r is s")


def part(book, numbers):
    return [(number, saying) for number, saying in book if number in numbers]


def numbers_of(book):
    return [number for number, saying in book]


def slow_whys(book, doubted, saying):
    """All whys and breaks among the doubted, by asking of each part of them."""
    firm = [number for number in numbers_of(book) if number not in doubted]
    parts = [list(found) for many in range(len(doubted) + 1) for found in itertools.combinations(doubted, many)]
    bearing = [found for found in parts if whether(part(book, firm + found), saying)]
    breaking = [found for found in parts if not whether(part(book, [n for n in numbers_of(book) if n not in found]), saying)]
    return least_sets(bearing), least_sets(breaking)


class Checked(unittest.TestCase):
    def check_why(self, book, saying):
        """Check a told why; give it."""
        told = why(book, saying)
        if told is None:
            self.assertFalse(whether(book, saying))
            return None
        self.assertIs(type(told), list)
        self.assertEqual(told, sorted(set(told)))
        self.assertLessEqual(set(told), set(numbers_of(book)))
        self.assertTrue(whether(part(book, told), saying), (book, saying, told))
        for number in told:
            self.assertFalse(whether(part(book, [n for n in told if n != number]), saying), (book, saying, told))
        return told

    def check_whys(self, book, doubted, saying):
        """Check all whys and breaks; give them."""
        told = whys(book, doubted, saying)
        self.assertIs(type(told), tuple)
        self.assertEqual(told, slow_whys(book, doubted, saying), (book, doubted, saying))
        self.assertEqual((crossings(told[1]), crossings(told[0])), told)
        self.assertEqual((slow_crossings(told[1]), slow_crossings(told[0])), told)
        return told

    def check_lean(self, book):
        """Check the needless numbers and a lean list; give both."""
        told = needless(book)
        self.assertEqual(told, [
            number for number, saying in book if whether([row for row in book if row[0] != number], saying)
        ])
        kept = lean(book)
        self.assertIs(type(kept), list)
        self.assertEqual(kept, sorted(set(kept)))
        self.assertLessEqual(set(kept), set(numbers_of(book)))
        for number, saying in book:
            self.assertTrue(whether(part(book, kept), saying), (book, kept, number))
            if number in kept:
                self.assertFalse(whether(part(book, [n for n in kept if n != number]), saying), (book, kept, number))
            else:
                self.assertIn(number, told)
        return told, kept


class Why(Checked):
    def test_one_why(self):
        self.assertEqual(self.check_why(TWO_WAYS, read_saying("thing x is b")), [1, 5])
        self.assertEqual(self.check_why(TWO_WAYS, read_saying("every a is b")), [1])
        self.assertEqual(self.check_why(TWO_WAYS, ("tie", "r", "s")), [7])
        self.assertEqual(self.check_why(TWO_WAYS, ("thing", "x", ANY)), [5])

    def test_any_one_of_several(self):
        self.assertIn(self.check_why(TWO_WAYS, read_saying("every a is c")), ([1, 2], [3, 4]))
        self.assertIn(self.check_why(TWO_WAYS, read_saying("thing x is d")), ([3, 5], [1, 5, 6]))

    def test_nothing_is_needed(self):
        for book in ([], TWO_WAYS, book_of("thing x is nothing")):
            for text in ("every a is a", "every a is anything", "no a is nothing", "tie r is r", "same (a and b) as (b and a)"):
                self.assertEqual(why(book, read_saying(text)), [])

    def test_none(self):
        for text in ("every c is a", "thing y is anything", "thing x r x", "tie s is r", "no a is b", "same a as b"):
            self.assertIsNone(self.check_why(TWO_WAYS, read_saying(text)))
            self.assertIsNone(why([], read_saying(text)))

    def test_a_saying_that_stands_twice(self):
        book = book_of("every a is b", "every a is b", "thing x is a", "every a is b")
        self.assertIn(self.check_why(book, ("every", A, B)), ([1], [2], [4]))
        self.assertIn(self.check_why(book, ("thing", "x", B)), ([1, 3], [2, 3], [3, 4]))

    def test_same(self):
        book = book_of("every a is b", "same b as c", "every c is a", "every b is a")
        self.assertIn(self.check_why(book, ("same", A, B)), ([1, 4], [1, 2, 3]))
        self.assertEqual(self.check_why(book, ("same", B, C)), [2])

    def test_a_clash(self):
        book = book_of("thing x is a", "every b is c", "no a is a", "thing y is b", "no c is (b and c)", "thing x r y")
        self.assertIn(self.check_why(book, ("every", C, A)), ([1, 3], [2, 4, 5]))
        self.assertIn(self.check_why(book, ("thing", "z", NONE)), ([1, 3], [2, 4, 5]))
        self.assertEqual(self.check_why(book, ("link", "x", "r", "y")), [6])

    def test_ties(self):
        book = book_of("tie r is s", "tie s s is t", "tie t is r", "tie r runs on", "every (t some anything) is nothing")
        for text in ("tie r is t", "tie r runs on", "tie r r is t", "tie s s is r", "tie t runs on", "tie t is s", "tie s is t"):
            self.check_why(book, read_saying(text))
        self.assertEqual(self.check_why(book, read_saying("tie r s is t")), [1, 2])
        self.assertEqual(self.check_why(book, read_saying("tie t is q")), [5])

    def test_more_than_the_first_grounds_show(self):
        # The first way to what is asked may go by more than is needed.
        book = book_of("every a is (b and c)", "every a is b", "every b is c", "every a is c", "every (b and c) is d", "every c is d")
        self.check_why(book, read_saying("every a is d"))

    def test_numbers_with_gaps_and_many_figures(self):
        book = [(3, ("every", A, B)), (10, ("every", C, A)), (99, ("every", B, C)), (10 ** 59, ("every", B, A)),
                (10 ** 60 - 1, ("thing", "x", C))]
        self.assertEqual(self.check_why(book, ("every", A, C)), [3, 99])
        self.assertIn(self.check_why(book, ("every", B, A)), ([10, 99], [10 ** 59]))
        self.assertEqual(self.check_why(book, ("thing", "x", B)), [3, 10, 10 ** 60 - 1])

    def test_each_saying_by_itself(self):
        maker = Maker(320)
        for _ in range(40):
            for number, saying in [(4, maker.saying(2))]:
                self.assertIn(self.check_why([(number, saying)], saying), ([number], []))

    def test_made_ones(self):
        maker = Maker(32)
        sizes = []
        for _ in range(400):
            book = maker.book(maker.upto(9), 2)
            told = self.check_why(book, maker.saying(2))
            sizes.append(-1 if told is None else len(told))
        self.assertLessEqual({-1, 0, 1, 2, 3}, set(sizes))

    def test_forty_sayings(self):
        for many in (40, 43):
            book = [(at + 1, ("every", kind(at), kind(at + 1))) for at in range(many)]
            self.assertEqual(why(book, ("every", kind(0), kind(many))), list(range(1, many + 1)))
            self.assertEqual(self.check_why(book, ("every", kind(3), kind(7))), [4, 5, 6, 7])
        maker = Maker(321)
        book = maker.book(40, 1)
        for _ in range(4):
            self.check_why(book, maker.saying(2))

    def test_deep_thoughts(self):
        for many in (12, 13):
            book = [(1, ("every", A, ("some", "r", A))), (2, ("every", tied(many)[0], B)), (3, ("thing", "x", A))]
            self.assertEqual(self.check_why(book, ("thing", "x", B)), [1, 2, 3])


class Whys(Checked):
    def test_two_ways(self):
        told = self.check_whys(TWO_WAYS, [1, 2, 3, 4, 5, 6, 7], read_saying("thing x is c"))
        self.assertEqual(told[0], [[1, 2, 5], [1, 4, 5, 6], [3, 4, 5]])
        told = self.check_whys(TWO_WAYS, [1, 2, 3, 4], read_saying("every a is c"))
        self.assertEqual(told, ([[1, 2], [1, 4], [3, 4]], [[1, 3], [1, 4], [2, 4]]))
        told = self.check_whys(TWO_WAYS, [2, 4], read_saying("every a is c"))
        self.assertEqual(told, ([[2], [4]], [[2, 4]]))

    def test_no_doubted_numbers(self):
        self.assertEqual(self.check_whys(TWO_WAYS, [], read_saying("every a is c")), ([[]], []))
        self.assertEqual(self.check_whys(TWO_WAYS, [], read_saying("every c is a")), ([], [[]]))
        self.assertEqual(self.check_whys([], [], read_saying("every c is a")), ([], [[]]))
        self.assertEqual(self.check_whys([], [], read_saying("every a is a")), ([[]], []))

    def test_all_numbers_doubted(self):
        book = TWO_WAYS[:4]
        self.assertEqual(self.check_whys(book, [1, 2, 3, 4], read_saying("every a is c")), ([[1, 2], [3, 4]], [[1, 3], [1, 4], [2, 3], [2, 4]]))

    def test_a_saying_that_does_not_follow(self):
        for doubted in ([], [1], [1, 2, 3, 4, 5, 6, 7]):
            self.assertEqual(self.check_whys(TWO_WAYS, doubted, ("every", C, A)), ([], [[]]))

    def test_a_saying_that_follows_from_nothing(self):
        for doubted in ([], [1], [1, 2, 3, 4, 5, 6, 7]):
            self.assertEqual(self.check_whys(TWO_WAYS, doubted, ("every", A, A)), ([[]], []))

    def test_a_saying_that_follows_from_the_undoubted(self):
        self.assertEqual(self.check_whys(TWO_WAYS, [3, 4, 5], ("every", A, C)), ([[]], []))

    def test_a_saying_that_stands_twice(self):
        book = book_of("every a is b", "every a is b", "every b is c")
        self.assertEqual(self.check_whys(book, [1, 2, 3], ("every", A, C)), ([[1, 3], [2, 3]], [[1, 2], [3]]))
        self.assertEqual(self.check_whys(book, [2, 3], ("every", A, C)), ([[3]], [[3]]))

    def test_eight_doubted_numbers(self):
        texts = []
        for middle in ("b", "d", "e", "f"):
            texts += [f"every a is {middle}", f"every {middle} is c"]
        book = book_of(*texts, "thing x is a")
        told = self.check_whys(book, [1, 2, 3, 4, 5, 6, 7, 8], ("thing", "x", C))
        self.assertEqual(told[0], [[1, 2], [3, 4], [5, 6], [7, 8]])
        self.assertEqual(len(told[1]), 16)
        self.assertEqual(self.check_whys(book, [1, 2, 3, 4, 5, 6, 7, 9], ("thing", "x", C))[1], [[1, 3, 5, 7], [1, 3, 6, 7], [1, 4, 5, 7],
                         [1, 4, 6, 7], [2, 3, 5, 7], [2, 3, 6, 7], [2, 4, 5, 7], [2, 4, 6, 7], [9]])

    def test_many_whys(self):
        # Any two of the eight doubted sayings bear it.
        sayings = [("every", A, kind(at)) for at in range(8)]
        sayings += [("every", ("both", kind(one), kind(other)), B) for one, other in itertools.combinations(range(8), 2)]
        told = self.check_whys(list(enumerate(sayings, 1)), [1, 2, 3, 4, 5, 6, 7, 8], ("every", A, B))
        self.assertEqual((len(told[0]), len(told[1])), (28, 8))

    def test_refusals(self):
        book = [(at + 1, ("every", kind(at), kind(at + 1))) for at in range(12)]
        saying = ("every", kind(0), kind(3))
        for doubted in (list(range(1, 10)), list(range(1, 13)), list(range(1, 9)) + [99], list(range(20, 40)), list(range(-9, 0))):
            with self.assertRaises(TooMany):
                whys(book, doubted, saying)
        for doubted in ([13], [0], [-1], [1, 2, 13], [0, 1], list(range(1, 8)) + [99], list(range(6, 14)), [10 ** 59]):
            with self.assertRaises(NoSaying):
                whys(book, doubted, saying)
        with self.assertRaises(NoSaying):
            whys([], [1], saying)
        with self.assertRaises(NoSaying):
            whys([(1, saying), (3, saying)], [1, 2, 3], saying)
        self.assertEqual(whys(book, list(range(1, 9)), saying), ([[1, 2, 3]], [[1], [2], [3]]))

    def test_numbers_with_gaps_and_many_figures(self):
        great = 10 ** 60 - 1
        book = [(5, ("every", A, B)), (50, ("every", A, B)), (10 ** 59, ("every", B, C)), (great, ("thing", "x", A))]
        told = self.check_whys(book, [5, 10 ** 59, great], ("thing", "x", C))
        self.assertEqual(told, ([[10 ** 59, great]], [[10 ** 59], [great]]))
        told = self.check_whys(book, [5, 50, great], ("thing", "x", C))
        self.assertEqual(told, ([[5, great], [50, great]], [[5, 50], [great]]))

    def test_made_ones(self):
        maker = Maker(34)
        seen = set()
        for _ in range(150):
            book = maker.book(maker.upto(8), 2)
            doubted = [number for number in numbers_of(book) if maker.upto(2)][:6]
            told = self.check_whys(book, doubted, maker.saying(2))
            seen.add((len(told[0]), len(told[1])))
        self.assertGreaterEqual(len(seen), 5)

    def test_made_ones_of_few_kinds(self):
        maker = Maker(340)
        seen = set()
        for _ in range(30):
            book = [(at + 1, ("every", ("kind", maker.one("abcd")), ("kind", maker.one("abcd")))) for at in range(10)]
            told = self.check_whys(book, [1, 2, 4, 5, 7, 8, 10], ("every", A, B))
            seen.add(len(told[0]))
        self.assertGreater(len(seen), 2)

    def test_forty_sayings(self):
        maker = Maker(341)
        for many in (40, 42):
            book = [(at + 1, ("every", ("kind", maker.one("abcdefgh")), ("kind", maker.one("abcdefgh")))) for at in range(many)]
            self.check_whys(book, list(range(1, 9)), ("every", A, B))
            told = whys([(number, ("every", A, B)) for number in range(1, many + 1)], list(range(1, 9)), ("every", A, B))
            self.assertEqual(told, ([[]], []))


class Lean(Checked):
    def test_an_empty_book(self):
        self.assertEqual(self.check_lean([]), ([], []))

    def test_nothing_needless(self):
        book = book_of("every a is b", "every b is c", "thing x is a", "tie r is s", "thing x r y")
        self.assertEqual(self.check_lean(book), ([], [1, 2, 3, 4, 5]))

    def test_two_alike_sayings(self):
        told, kept = self.check_lean(book_of("every a is b", "every c is a", "every a is b"))
        self.assertEqual(told, [1, 3])
        self.assertIn(kept, ([1, 2], [2, 3]))

    def test_sayings_that_follow_from_others(self):
        self.assertEqual(self.check_lean(TWO_WAYS)[0], [2, 3])
        book = book_of("every a is b", "every b is c", "every a is c", "thing x is a", "thing x is c", "tie r runs on", "tie r r is r")
        told, kept = self.check_lean(book)
        self.assertEqual(told, [3, 5, 6, 7])
        self.assertIn(kept, ([1, 2, 4, 6], [1, 2, 4, 7]))

    def test_sayings_that_follow_from_nothing(self):
        self.assertEqual(self.check_lean(book_of("every a is a", "tie r is r", "no a is nothing")), ([1, 2, 3], []))

    def test_a_ring(self):
        book = book_of("same a as b", "same b as c", "same c as a")
        told, kept = self.check_lean(book)
        self.assertEqual((told, len(kept)), ([1, 2, 3], 2))

    def test_a_book_that_no_world_keeps(self):
        told, kept = self.check_lean(book_of("thing x is nothing", "every a is b", "thing y is nothing"))
        self.assertEqual(told, [1, 2, 3])
        self.assertIn(kept, ([1], [3]))
        told, kept = self.check_lean(book_of("thing x is a", "every a is nothing", "tie r is s"))
        self.assertEqual((told, kept), ([3], [1, 2]))

    def test_numbers_with_gaps_and_many_figures(self):
        book = [(7, ("every", A, B)), (10 ** 30, ("every", B, C)), (10 ** 59, ("every", A, C))]
        self.assertEqual(self.check_lean(book), ([10 ** 59], [7, 10 ** 30]))

    def test_made_ones(self):
        maker = Maker(35)
        for _ in range(100):
            self.check_lean(maker.book(maker.upto(9), 2))

    def test_forty_sayings(self):
        book = [(at + 1, ("every", kind(at), kind((at + 1) % 40))) for at in range(40)]
        self.assertEqual(self.check_lean(book), ([], list(range(1, 41))))
        maker = Maker(350)
        for many in (40, 42):
            book = [(at + 1, ("every", ("kind", maker.one("abcdefghij")), ("kind", maker.one("abcdefghij")))) for at in range(many)]
            self.check_lean(book)


class Owning(unittest.TestCase):
    def test_what_is_handed_in_stays(self):
        doubted = [1, 3, 4]
        saying = read_saying("every a is c")
        before = copy.deepcopy((TWO_WAYS, doubted))
        why(TWO_WAYS, saying).clear()
        told = whys(TWO_WAYS, doubted, saying)
        needless(TWO_WAYS).clear()
        lean(TWO_WAYS).clear()
        self.assertEqual((TWO_WAYS, doubted), before)
        for found in told:
            for one in found:
                one.append(99)
            found.clear()
        self.assertEqual((TWO_WAYS, doubted), before)
        self.assertEqual(whys(TWO_WAYS, doubted, saying), slow_whys(TWO_WAYS, doubted, saying))

    def test_no_list_is_told_twice(self):
        book = book_of("every a is b")
        found, breaks = whys(book, [1], ("every", A, B))
        found[0].append(2)
        self.assertEqual(breaks, [[1]])
        doubted = [1]
        found, breaks = whys(book, doubted, ("every", A, B))
        found[0].append(3)
        breaks[0].append(4)
        self.assertEqual(doubted, [1])
        numbers = why(book, ("every", A, B))
        numbers.append(5)
        self.assertEqual(why(book, ("every", A, B)), [1])
        lean([]).append(1)
        self.assertEqual((lean([]), needless([])), ([], []))

    def test_changes_behind_the_call(self):
        book, doubted = book_of("every a is b", "every b is c"), [1, 2]
        told = why(book, ("every", A, C)), whys(book, doubted, ("every", A, C)), needless(book), lean(book)
        before = copy.deepcopy(told)
        book.append((3, ("every", A, C)))
        doubted.append(3)
        self.assertEqual(told, before)
        self.assertEqual(whys(book, doubted, ("every", A, C))[0], [[1, 2], [3]])
        self.assertEqual(needless(book), [3])


if __name__ == "__main__":
    unittest.main()
