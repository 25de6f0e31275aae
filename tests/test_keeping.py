"""Breaches of plain rows, and when a world keeps a saying [12]."""

import copy
import itertools
import unittest

from kindhall.keeping import breach, keeps
from kindhall.rows import plain
from tests.made import Maker, full_world
from tests.samples import A, ANY, B, NONE, towers
from tests.test_worlds import is_point

C = ("kind", "c")
EMPTY = ([], [], [])
WORLD = (
    [["a"], ["a", "b"], ["a", "c"], ["b"]],
    [(0, "r", 1), (0, "s", 1), (1, "r", 2), (1, "r", 3), (1, "t", 3), (2, "s", 2), (3, "r", 0), (3, "s", 0)],
    [("x", 1), ("y", 3), ("z", 1)],
)


def found_breach(world, row):
    """The breach of a row, by trying all points in their order."""
    marks, ties, spots = world
    sort = row[0]
    spot = dict(spots)
    if sort in ("mark", "link"):
        if any(thing not in spot for thing in row[1::2] if isinstance(thing, str)):
            return ()
        if sort == "mark":
            return None if is_point(world, spot[row[1]], row[2]) else (spot[row[1]],)
        pair = (spot[row[1]], spot[row[3]])
        return None if (pair[0], row[2], pair[1]) in ties else pair
    for points in itertools.product(range(len(marks)), repeat={"under": 1, "sub": 2, "chain": 3}[sort]):
        if sort == "under":
            broken = is_point(world, points[0], row[1]) and not is_point(world, points[0], row[2])
        elif sort == "sub":
            p, q = points
            broken = (p, row[1], q) in ties and (p, row[2], q) not in ties
        else:
            p, q, z = points
            broken = (p, row[1], q) in ties and (q, row[2], z) in ties and (p, row[3], z) not in ties
        if broken:
            return points
    return None


class Breaches(unittest.TestCase):
    def check(self, cases, world=WORLD):
        for row, told in cases:
            with self.subTest(row=row):
                self.assertEqual(breach(world, row), told)
                self.assertEqual(found_breach(world, row), told)

    def test_under(self):
        self.check([
            (("under", A, A), None),
            (("under", A, ANY), None),
            (("under", NONE, A), None),
            (("under", A, B), (0,)),
            (("under", B, A), (3,)),
            (("under", C, A), None),
            (("under", C, B), (2,)),
            (("under", ANY, A), (3,)),
            (("under", ANY, NONE), (0,)),
            (("under", ("both", A, B), NONE), (1,)),
            (("under", ("both", B, C), NONE), None),
            (("under", ("both", A, B), C), (1,)),
            (("under", ANY, ("some", "r", ANY)), (2,)),
            (("under", ("some", "r", B), A), None),
            (("under", ("some", "t", ANY), ("some", "r", C)), None),
            (("under", ("kind", "d"), NONE), None),
            (("under", A, ("kind", "d")), (0,)),
            (("under", A, ("some", "q", ANY)), (0,)),
        ])

    def test_sub(self):
        self.check([
            (("sub", "r", "r"), None),
            (("sub", "r", "s"), (1, 2)),
            (("sub", "s", "r"), (2, 2)),
            (("sub", "t", "r"), None),
            (("sub", "t", "s"), (1, 3)),
            (("sub", "q", "r"), None),
            (("sub", "r", "q"), (0, 1)),
        ])

    def test_the_least_two_points(self):
        world = ([[], [], [], []], [(0, "s", 3), (1, "a", 0), (1, "r", 2), (1, "r", 3), (1, "s", 2), (3, "r", 0)], [])
        self.check([(("sub", "r", "s"), (1, 3)), (("sub", "r", "a"), (1, 2)), (("sub", "s", "r"), (0, 3))], world)

    def test_chain(self):
        self.check([
            (("chain", "r", "r", "r"), (0, 1, 2)),
            (("chain", "r", "r", "t"), (0, 1, 2)),
            (("chain", "s", "s", "s"), (3, 0, 1)),
            (("chain", "s", "r", "t"), (0, 1, 2)),
            (("chain", "t", "s", "r"), (1, 3, 0)),
            (("chain", "t", "t", "r"), None),
            (("chain", "q", "r", "r"), None),
            (("chain", "r", "q", "r"), None),
            (("chain", "r", "s", "q"), (1, 2, 2)),
            (("chain", "s", "t", "r"), (0, 1, 3)),
        ])

    def test_a_chain_through_one_point(self):
        world = ([[]], [(0, "r", 0)], [])
        self.check([
            (("chain", "r", "r", "r"), None),
            (("chain", "r", "r", "s"), (0, 0, 0)),
            (("sub", "r", "s"), (0, 0)),
        ], world)

    def test_the_least_three_points(self):
        ties = [(0, "r", 2), (1, "r", 2), (1, "r", 3), (2, "s", 0), (2, "s", 3), (3, "s", 1)]
        marks = [[], [], [], []]
        for held, told in [
            ([], (0, 2, 0)),
            ([(0, "t", 0)], (0, 2, 3)),
            ([(0, "t", 0), (0, "t", 3)], (1, 2, 0)),
            ([(0, "t", 0), (0, "t", 3), (1, "t", 0)], (1, 2, 3)),
            ([(0, "t", 0), (0, "t", 3), (1, "t", 0), (1, "t", 3)], (1, 3, 1)),
            ([(0, "t", 0), (0, "t", 3), (1, "t", 0), (1, "t", 1), (1, "t", 3)], None),
        ]:
            self.check([(("chain", "r", "s", "t"), told)], (marks, sorted(ties + held), []))

    def test_mark(self):
        self.check([
            (("mark", "x", A), None),
            (("mark", "x", ANY), None),
            (("mark", "x", ("both", A, B)), None),
            (("mark", "x", C), (1,)),
            (("mark", "x", NONE), (1,)),
            (("mark", "y", A), (3,)),
            (("mark", "z", A), None),
            (("mark", "z", C), (1,)),
            (("mark", "x", ("some", "r", C)), None),
            (("mark", "y", ("some", "r", C)), (3,)),
            (("mark", "w", ANY), ()),
            (("mark", "w", NONE), ()),
            (("mark", "a", A), ()),
        ])

    def test_link(self):
        self.check([
            (("link", "x", "r", "y"), None),
            (("link", "x", "t", "y"), None),
            (("link", "x", "s", "y"), (1, 3)),
            (("link", "y", "r", "x"), (3, 1)),
            (("link", "z", "r", "y"), None),
            (("link", "x", "r", "z"), (1, 1)),
            (("link", "x", "r", "x"), (1, 1)),
            (("link", "x", "q", "y"), (1, 3)),
            (("link", "w", "r", "y"), ()),
            (("link", "x", "r", "w"), ()),
            (("link", "w", "r", "w"), ()),
        ])
        self.check([(("link", "x", "r", "y"), None), (("link", "y", "r", "x"), None), (("link", "y", "s", "x"), (0, 0))],
                   ([[]], [(0, "r", 0)], [("x", 0), ("y", 0)]))

    def test_a_spot_at_point_nought_is_a_spot(self):
        world = ([["a"], []], [(0, "r", 1)], [("x", 0), ("y", 1)])
        self.check([
            (("mark", "x", A), None), (("mark", "x", B), (0,)),
            (("link", "x", "r", "y"), None), (("link", "y", "r", "x"), (1, 0)), (("link", "x", "s", "x"), (0, 0)),
        ], world)

    def test_a_world_without_points(self):
        self.check([
            (("under", ANY, NONE), None), (("sub", "r", "s"), None), (("chain", "r", "s", "t"), None),
            (("mark", "x", ANY), ()), (("link", "x", "r", "y"), ()),
        ], EMPTY)

    def test_at_and_beyond_the_bounds(self):
        for points, ties in ((60, 400), (70, 500)):
            world = full_world(points, ties)
            rows = [("sub", "r", "s"), ("sub", "s", "r"), ("chain", "r", "s", "r"), ("chain", "s", "s", "t")]
            self.check([(row, slow_breach(world, row)) for row in rows], world)
            for many in (12, 13):
                for thought, text in towers(many):
                    self.assertIsNone(breach(world, ("under", thought, thought)))
                    self.assertIsNone(breach(world, ("under", thought, ANY)))
                    self.assertEqual(breach(world, ("under", ANY, ("both", thought, NONE))), (0,))
        # All ties meet in one point.
        star = ([[] for _ in range(60)], sorted([(p, "r", 0) for p in range(60)] + [(0, "s", p) for p in range(60)]), [])
        self.assertEqual(breach(star, ("chain", "r", "s", "s")), (1, 0, 0))
        self.assertIsNone(breach(star, ("chain", "s", "r", "r")))

    def test_many_made_ones(self):
        maker = Maker(12)
        for _ in range(1500):
            world = maker.world(maker.upto(4), maker.upto(12))
            for row in plain(maker.saying(2)):
                self.assertEqual(breach(world, row), found_breach(world, row), (world, row))

    def test_what_is_told_is_none_or_a_tuple(self):
        for row in [("under", A, B), ("sub", "r", "s"), ("chain", "r", "r", "r"), ("mark", "w", A), ("link", "w", "r", "x")]:
            self.assertIs(type(breach(WORLD, row)), tuple)


def slow_breach(world, row):
    """The breach of a row about ties, out of all pairs of ties."""
    if row[0] == "sub":
        found = [(p, q) for p, r, q in world[1] if r == row[1] and (p, row[2], q) not in world[1]]
    else:
        found = [
            (p, q, z) for p, r, q in world[1] if r == row[1] for m, s, z in world[1]
            if m == q and s == row[2] and (p, row[3], z) not in world[1]
        ]
    return min(found, default=None)


class Keeping(unittest.TestCase):
    def check(self, world, kept, broken):
        for sayings, told in ((kept, True), (broken, False)):
            for saying in sayings:
                with self.subTest(saying=saying):
                    self.assertIs(keeps(world, saying), told)

    def test_of_all_eight_sorts(self):
        self.check(
            WORLD,
            [
                ("every", C, A), ("every", NONE, ANY),
                ("same", A, A), ("same", ("both", A, B), ("both", B, A)), ("same", ("some", "t", ANY), ("some", "r", C)),
                ("no", B, C), ("no", A, NONE), ("no", ("kind", "d"), ANY),
                ("tie", "t", "r"), ("tie", "q", "t"),
                ("chain", "t", "t", "r"), ("chain", "r", "q", "s"),
                ("runs", "t"), ("runs", "q"),
                ("thing", "x", B), ("thing", "y", B),
                ("link", "x", "t", "y"), ("link", "z", "r", "y"),
            ],
            [
                ("every", A, C),
                ("same", C, A), ("same", A, C),
                ("no", A, B), ("no", A, A), ("no", ANY, ANY),
                ("tie", "r", "t"), ("tie", "s", "r"),
                ("chain", "r", "r", "r"), ("chain", "s", "s", "s"),
                ("runs", "r"), ("runs", "s"),
                ("thing", "x", C), ("thing", "w", ANY),
                ("link", "y", "t", "x"), ("link", "x", "r", "w"), ("link", "w", "r", "x"),
            ],
        )

    def test_every_plain_row_of_same_counts(self):
        world = ([["a"], ["a", "b"]], [], [])
        self.check(world, [("every", B, A)], [("every", A, B), ("same", A, B), ("same", B, A)])

    def test_a_world_without_points(self):
        self.check(
            EMPTY,
            [("every", ANY, NONE), ("same", ANY, NONE), ("no", ANY, ANY), ("tie", "r", "s"), ("chain", "r", "s", "t"), ("runs", "r")],
            [("thing", "x", ANY), ("link", "x", "r", "x")],
        )

    def test_two_things_at_one_point(self):
        world = ([["a"]], [(0, "r", 0)], [("x", 0), ("y", 0)])
        self.check(
            world,
            [("thing", "x", A), ("thing", "y", A), ("link", "x", "r", "y"), ("link", "y", "r", "x"), ("link", "x", "r", "x")],
            [("thing", "z", A), ("link", "x", "r", "z"), ("link", "x", "s", "y")],
        )

    def test_many_made_ones(self):
        maker = Maker(120)
        seen = set()
        for _ in range(2000):
            world = maker.world(maker.upto(4), maker.upto(12))
            saying = maker.saying(2)
            told = all(found_breach(world, row) is None for row in plain(saying))
            self.assertIs(keeps(world, saying), told, (world, saying))
            seen.add((saying[0], told))
        self.assertEqual(len(seen), 16)


class Owning(unittest.TestCase):
    def test_the_world_handed_in_stays(self):
        world = copy.deepcopy(WORLD)
        maker = Maker(121)
        for _ in range(200):
            saying = maker.saying(2)
            keeps(world, saying)
            for row in plain(saying):
                breach(world, row)
        self.assertEqual(world, WORLD)

    def test_a_world_changed_behind_the_call(self):
        world = ([[], []], [(0, "r", 1)], [("x", 0)])
        self.assertEqual(breach(world, ("sub", "r", "s")), (0, 1))
        self.assertIs(keeps(world, ("link", "x", "r", "y")), False)
        world[1].append((0, "s", 1))
        world[2].append(("y", 1))
        self.assertIsNone(breach(world, ("sub", "r", "s")))
        self.assertIs(keeps(world, ("link", "x", "r", "y")), True)


if __name__ == "__main__":
    unittest.main()
