"""Patterns and their answers [26, 27]."""

import copy
import itertools
import unittest

from kindhall.asking import whether
from kindhall.closing import closed
from kindhall.patterns import answers
from tests.answered import logs_for, long_log
from tests.held import things_named
from tests.made import THINGS, TIES, Maker
from tests.samples import A, ANY, B, NONE, tied
from tests.test_closing import book_of

C = ("kind", "c")
X, Y, Z = ("thing", "x"), ("thing", "y"), ("thing", "z")
U, V, W = ("free", "u"), ("free", "v"), ("free", "w")
BOOK = book_of(
    "thing x r y", "thing y r z", "tie r runs on", "thing x is a", "thing y is a", "every a is b", "thing z is (s some a)",
    "every (r some anything) is c",
)


def whos_of(atom):
    return [atom[1]] if atom[0] == "is" else [atom[1], atom[3]]


def saying_of(atom, put):
    """The saying that an atom is, with the names that are put in the places of its free ones."""
    names = [put[who[1]] if who[0] == "free" else who[1] for who in whos_of(atom)]
    return ("thing", names[0], atom[2]) if atom[0] == "is" else ("link", names[0], atom[2], names[1])


def slow_answers(book, pattern):
    """The answers, by asking for each atom of each tuple of things."""
    frees = []
    for atom in pattern:
        for who in whos_of(atom):
            if who[0] == "free" and who[1] not in frees:
                frees.append(who[1])
    known = {}
    found = []
    for names in itertools.product(sorted(things_named(book)), repeat=len(frees)):
        sayings = [saying_of(atom, dict(zip(frees, names))) for atom in pattern]
        for saying in sayings:
            if saying not in known:
                known[saying] = whether(book, saying)
        if all(known[saying] for saying in sayings):
            found.append(names)
    return sorted(set(found))


def made_pattern(maker, atoms, deep=2):
    frees = ["u", "v", "w", "x"][:maker.upto(3)]
    whos = [("thing", name) for name in THINGS + ["v"]] * (1 if frees else 2) + [("free", name) for name in frees] * 4
    pattern = []
    for _ in range(atoms):
        if maker.upto(1):
            pattern.append(("is", maker.one(whos), maker.thought(deep)))
        else:
            pattern.append(("tied", maker.one(whos), maker.one(TIES), maker.one(whos)))
    return pattern


class Answers(unittest.TestCase):
    def check(self, book, pattern, told):
        found = answers(book, pattern)
        self.assertEqual(found, told)
        self.assertIs(type(found), list)
        self.assertTrue(all(type(names) is tuple for names in found))
        self.assertEqual(slow_answers(book, pattern), told)

    def test_no_atoms(self):
        for book in ([], BOOK, book_of("thing x is nothing"), book_of("every anything is nothing")):
            self.check(book, [], [()])

    def test_no_free_ones(self):
        for pattern in ([("is", X, A)], [("is", X, B), ("tied", X, "r", Z)], [("is", Z, ("some", "s", B))], [("tied", X, "r", Y)] * 3):
            self.check(BOOK, pattern, [()])
        for pattern in ([("is", Z, A)], [("is", X, B), ("tied", Z, "r", X)], [("tied", X, "s", Y)], [("is", X, A), ("is", X, NONE)]):
            self.check(BOOK, pattern, [])

    def test_one_free_one(self):
        self.check(BOOK, [("is", U, A)], [("x",), ("y",)])
        self.check(BOOK, [("is", U, ANY)], [("x",), ("y",), ("z",)])
        self.check(BOOK, [("is", U, NONE)], [])
        self.check(BOOK, [("tied", U, "r", Z)], [("x",), ("y",)])
        self.check(BOOK, [("tied", X, "r", U)], [("y",), ("z",)])
        self.check(BOOK, [("tied", X, "r", U), ("is", U, B)], [("y",)])
        self.check(BOOK, [("is", U, ("some", "r", ("some", "s", B)))], [("x",), ("y",)])
        self.check(BOOK, [("is", U, ("both", C, A)), ("tied", U, "r", Y)], [("x",)])

    def test_two_free_ones(self):
        self.check(BOOK, [("tied", U, "r", V)], [("x", "y"), ("x", "z"), ("y", "z")])
        self.check(BOOK, [("tied", U, "r", V), ("is", V, A)], [("x", "y")])
        self.check(BOOK, [("is", V, A), ("tied", U, "r", V)], [("y", "x")])
        self.check(BOOK, [("is", U, A), ("is", V, ("some", "s", A))], [("x", "z"), ("y", "z")])
        self.check(BOOK, [("tied", U, "r", V), ("tied", V, "r", U)], [])

    def test_three_free_ones(self):
        self.check(BOOK, [("tied", U, "r", V), ("tied", V, "r", W)], [("x", "y", "z")])
        self.check(BOOK, [("tied", V, "r", W), ("tied", U, "r", V)], [("y", "z", "x")])
        self.check(BOOK, [("is", U, A), ("is", V, A), ("is", W, A)], list(itertools.product("xy", repeat=3)))
        self.check(BOOK, [("is", U, ANY), ("is", V, ANY), ("is", W, ANY)], list(itertools.product("xyz", repeat=3)))
        self.check(BOOK, [("is", W, A), ("tied", U, "r", V)],
                   sorted((w, u, v) for w in "xy" for u, v in ("xy", "xz", "yz")))

    def test_the_order_of_the_free_ones(self):
        self.check(BOOK, [("tied", ("free", "z"), "r", ("free", "a"))], [("x", "y"), ("x", "z"), ("y", "z")])
        self.check(BOOK, [("is", ("free", "a"), ANY), ("tied", ("free", "z"), "r", ("free", "a"))], [("y", "x"), ("z", "x"), ("z", "y")])

    def test_a_free_one_that_stands_twice(self):
        self.check(BOOK, [("tied", U, "r", U)], [])
        self.check(book_of("thing x r x", "thing x r y", "thing y s y"), [("tied", U, "r", U)], [("x",)])
        self.check(book_of("thing x r y", "thing y r x", "tie r runs on"), [("tied", U, "r", U)], [("x",), ("y",)])
        self.check(BOOK, [("is", U, A), ("is", U, B), ("is", U, A)], [("x",), ("y",)])

    def test_two_free_ones_may_be_one_thing(self):
        self.check(book_of("thing x is a", "thing y is b"), [("is", U, A), ("is", V, A)], [("x", "x")])

    def test_a_free_one_with_the_name_of_a_thing(self):
        self.check(BOOK, [("tied", ("free", "x"), "r", Y)], [("x",)])
        self.check(BOOK, [("tied", ("free", "y"), "r", Y)], [("x",)])
        self.check(BOOK, [("tied", ("free", "z"), "r", Z), ("is", X, A)], [("x",), ("y",)])

    def test_things_that_the_book_does_not_name(self):
        self.check(BOOK, [("is", ("thing", "w"), ANY)], [])
        self.check(BOOK, [("is", U, A), ("is", ("thing", "w"), ANY)], [])
        self.check(BOOK, [("tied", U, "r", ("thing", "w"))], [])
        self.check(BOOK, [("tied", ("thing", "w"), "r", ("thing", "w"))], [])

    def test_a_book_that_no_world_keeps(self):
        book = book_of("thing y is nothing", "thing x is a")
        self.check(book, [("is", U, B)], [("x",), ("y",)])
        self.check(book, [("tied", U, "r", V)], [("x", "x"), ("x", "y"), ("y", "x"), ("y", "y")])
        self.check(book, [("is", ("thing", "w"), NONE)], [()])
        self.check(book, [("tied", ("thing", "w"), "r", U)], [("x",), ("y",)])
        self.check(book, [("is", U, A), ("tied", U, "r", V), ("is", W, NONE)], list(itertools.product("xy", repeat=3)))

    def test_a_book_that_names_no_thing(self):
        for book in ([], book_of("every anything is nothing", "tie r is s")):
            self.check(book, [("is", U, ANY)], [])
            self.check(book, [("is", U, ANY), ("tied", U, "r", V)], [])
            self.check(book, [("is", X, ANY)], [])
            self.check(book, [("tied", X, "r", X)], [])

    def test_thoughts_that_stand_in_no_saying(self):
        deep = ("some", "r", ("both", B, ("some", "r", ("some", "s", ("both", A, B)))))
        self.check(BOOK, [("is", U, deep)], [("x",)])
        self.check(BOOK, [("is", U, ("kind", "unheard"))], [])
        self.check(BOOK, [("is", U, ("both", A, ("both", B, C)))], [("x",), ("y",)])

    def test_made_ones(self):
        maker = Maker(26)
        sizes = set()
        for _ in range(300):
            book = maker.book(maker.upto(8), 2)
            pattern = made_pattern(maker, maker.upto(3))
            told = slow_answers(book, pattern)
            self.assertEqual(answers(book, pattern), told, (book, pattern))
            sizes.add(len(told))
        self.assertGreater(len(sizes), 5)

    def test_with_logs(self):
        maker = Maker(261)
        for _ in range(60):
            book = maker.book(maker.upto(8), 2)
            pattern = made_pattern(maker, 1 + maker.upto(2))
            told = answers(book, pattern)
            for log in logs_for(maker, book):
                self.assertEqual(answers(book, pattern, log), told)


class Bounds(unittest.TestCase):
    def test_twelve_things_and_eight_atoms(self):
        names = "abcdefghijklmn"
        for many in (12, 13):
            book = [(at + 1, ("link", names[at], "r", names[(at + 1) % many])) for at in range(many)]
            book += [(20 + at, ("thing", names[at], A)) for at in range(0, many, 3)] + [(40, ("tie", "r", "s"))]
            pattern = [("tied", U, "r", V), ("tied", V, "s", W), ("is", U, A), ("is", V, ANY), ("is", W, ("some", "r", ANY)),
                       ("tied", U, "s", V), ("is", W, ANY), ("is", U, tied(12)[0])]
            self.assertEqual(answers(book, pattern), slow_answers(book, pattern))
            self.assertTrue(answers(book, pattern))
            full = answers(book + [(41, ("runs", "r"))], [("tied", U, "r", V), ("tied", V, "r", W)] * 4)
            self.assertEqual(full, list(itertools.product(names[:many], repeat=3)))

    def test_a_log_of_two_thousand_steps(self):
        book, log = long_log()
        pattern = [("tied", U, "t", ("thing", "b")), ("is", U, ("some", "s", A)), ("is", V, A)]
        self.assertEqual(answers(book, pattern, log), [(name, "c") for name in "abcdefghijklmnopqrstuvwxyz"])

    def test_four_free_ones_and_ten_atoms(self):
        names = "abcdefghijkl"
        book = [(at + 1, ("thing", name, ANY)) for at, name in enumerate(names)]
        pattern = [("is", ("free", name), ANY) for name in "uvwx"] + [("is", U, ANY)] * 6
        self.assertEqual(answers(book, pattern), list(itertools.product(names, repeat=4)))


class Owning(unittest.TestCase):
    def test_what_is_handed_in_stays(self):
        pattern = [("is", U, A), ("tied", U, "r", V)]
        log = closed(BOOK, [C])
        before = copy.deepcopy((BOOK, pattern, log))
        for begun in (None, log):
            answers(BOOK, pattern, begun).clear()
        self.assertEqual((BOOK, pattern, log), before)
        self.assertEqual(answers(BOOK, pattern, log), [("x", "y"), ("x", "z"), ("y", "z")])

    def test_changes_behind_the_call(self):
        book, pattern = book_of("thing x is a"), [("is", U, A)]
        told = answers(book, pattern)
        book.append((2, ("thing", "y", A)))
        pattern.append(("is", V, A))
        self.assertEqual(told, [("x",)])
        self.assertEqual(len(answers(book, pattern)), 4)
        nothing = answers(book, [])
        nothing.append(1)
        self.assertEqual(answers(book, []), [()])


if __name__ == "__main__":
    unittest.main()
