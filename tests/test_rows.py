"""The plain rows of sayings [11]."""

import unittest

from kindhall.rows import plain
from tests.samples import A, ANY, B, NONE, SAYINGS, towers

T = ("some", "r", A)
U = ("both", B, ANY)


class Rows(unittest.TestCase):
    def test_of_each_sort(self):
        for saying, rows in [
            (("every", T, U), [("under", T, U)]),
            (("every", T, T), [("under", T, T)]),
            (("same", T, U), [("under", T, U), ("under", U, T)]),
            (("same", U, T), [("under", U, T), ("under", T, U)]),
            (("same", T, T), [("under", T, T), ("under", T, T)]),
            (("no", T, U), [("under", ("both", T, U), NONE)]),
            (("no", U, T), [("under", ("both", U, T), NONE)]),
            (("no", T, T), [("under", ("both", T, T), NONE)]),
            (("no", ANY, NONE), [("under", ("both", ANY, NONE), NONE)]),
            (("tie", "r", "s"), [("sub", "r", "s")]),
            (("tie", "s", "r"), [("sub", "s", "r")]),
            (("tie", "r", "r"), [("sub", "r", "r")]),
            (("chain", "r", "s", "t"), [("chain", "r", "s", "t")]),
            (("chain", "t", "s", "r"), [("chain", "t", "s", "r")]),
            (("chain", "r", "r", "s"), [("chain", "r", "r", "s")]),
            (("chain", "r", "r", "r"), [("chain", "r", "r", "r")]),
            (("runs", "r"), [("chain", "r", "r", "r")]),
            (("thing", "x", T), [("mark", "x", T)]),
            (("link", "x", "r", "y"), [("link", "x", "r", "y")]),
            (("link", "y", "r", "x"), [("link", "y", "r", "x")]),
            (("link", "x", "r", "x"), [("link", "x", "r", "x")]),
            (("link", "r", "r", "r"), [("link", "r", "r", "r")]),
        ]:
            with self.subTest(saying=saying):
                self.assertEqual(plain(saying), rows)

    def test_granted_things(self):
        self.assertEqual(plain(("link", "X", "r", "Y")), [("link", "X", "r", "Y")])

    def test_deep_ones(self):
        for many in (12, 13):
            for thought, text in towers(many):
                self.assertEqual(plain(("no", thought, A)), [("under", ("both", thought, A), NONE)], text)

    def test_what_is_told_is_the_askers_own(self):
        for saying, text in SAYINGS:
            first = plain(saying)
            second = plain(saying)
            kept = list(second)
            self.assertIs(type(first), list)
            self.assertEqual({type(row) for row in first}, {tuple})
            first.clear()
            self.assertEqual(second, kept, text)
            self.assertEqual(plain(saying), kept, text)


if __name__ == "__main__":
    unittest.main()
