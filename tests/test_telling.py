"""Rolls that tell two points apart [14]."""

import copy
import unittest

from kindhall.telling import roll
from tests.made import Maker, full_world, path, ring
from tests.test_leads import slow_led

MOST_ROWS = 4000


def points_of_rows(world, rows):
    """For each row of a roll the set of the points of its thought."""
    marks, ties, spots = world
    told = []
    for row in rows:
        if row[0] == "any":
            told.append(set(range(len(marks))))
        elif row[0] == "kind":
            told.append({point for point, kinds in enumerate(marks) if row[1] in kinds})
        elif row[0] == "both":
            told.append(told[row[1]] & told[row[2]])
        else:
            told.append({start for start, tie, end in ties if tie == row[1] and end in told[row[2]]})
    return told


class Rolls(unittest.TestCase):
    def check_rows(self, rows):
        self.assertIs(type(rows), list)
        self.assertLessEqual(len(rows), MOST_ROWS)
        for at, row in enumerate(rows):
            self.assertIs(type(row), tuple)
            self.assertIn((row[0], len(row)), [("kind", 2), ("any", 1), ("both", 3), ("some", 3)])
            places = {"kind": (), "any": (), "both": row[1:], "some": row[2:]}[row[0]]
            for place in places:
                self.assertIs(type(place), int)
                self.assertTrue(0 <= place < at, (at, row))
            if row[0] in ("kind", "some"):
                self.assertIs(type(row[1]), str)

    def check(self, world, other):
        """Check the rolls of all pairs; tell how many there are."""
        leading = slow_led(world, other)
        many = 0
        for p in range(len(world[0])):
            for q in range(len(other[0])):
                rows = roll(world, other, p, q)
                if (p, q) in leading:
                    self.assertIsNone(rows, (world, other, p, q))
                else:
                    many += 1
                    self.check_rows(rows)
                    self.assertIn(p, points_of_rows(world, rows)[-1], (world, other, p, q, rows))
                    self.assertNotIn(q, points_of_rows(other, rows)[-1], (world, other, p, q, rows))
        return many

    def test_by_a_kind(self):
        self.assertEqual(self.check(([["a"]], [], []), ([[], ["a"], ["b"]], [], [])), 2)
        self.assertEqual(self.check(([["a", "b"]], [], []), ([["a"], ["b"], ["a", "b"]], [], [])), 2)

    def test_by_a_tie_that_is_lacking(self):
        world = ([[], []], [(0, "r", 1)], [])
        self.assertEqual(self.check(world, ([[]], [], [])), 1)
        self.assertEqual(self.check(world, ([[]], [(0, "s", 0)], [])), 1)
        self.assertEqual(self.check(world, ([[]], [(0, "r", 0)], [])), 0)

    def test_by_several_ends_at_once(self):
        # No single end tells the two apart: it takes a thought that is both.
        world = ([[], ["a", "b", "c"]], [(0, "r", 1)], [])
        other = ([[], ["a", "b"], ["a", "c"], ["b", "c"]], [(0, "r", 1), (0, "r", 2), (0, "r", 3)], [])
        self.assertEqual(self.check(world, other), 8)

    def test_a_point_with_no_kinds_and_no_ties(self):
        bare = ([[]], [], [])
        for other in (bare, ([["a"], []], [(0, "r", 1)], []), ring(5)):
            for q in range(len(other[0])):
                self.assertIsNone(roll(bare, other, 0, q))
        self.assertEqual(self.check(ring(3), bare), 3)
        self.assertEqual(self.check(([["a"]], [], []), bare), 1)

    def test_rings(self):
        self.assertEqual(self.check(ring(3), ring(4)), 0)
        self.assertEqual(self.check(ring(3, tie="s"), ring(4)), 12)
        self.assertEqual(self.check(ring(3, [0]), ring(6, [0])), 18)
        self.assertEqual(self.check(ring(11, range(11)), ring(12, range(11))), 132)
        self.assertEqual(self.check(ring(12, [0]), ring(12, [0])), 132)

    def test_paths(self):
        self.assertEqual(self.check(path(12), path(12)), 66)
        self.assertEqual(self.check(ring(1), path(12)), 12)
        self.assertEqual(self.check(path(12), ring(1)), 0)

    def test_one_world_twice(self):
        world = ([["a"], ["a"], []], [(0, "r", 0), (1, "r", 2)], [])
        self.assertEqual(self.check(world, world), 3)

    def test_one_name_of_a_kind_and_a_tie(self):
        world = ([["a"], []], [(0, "a", 1), (1, "a", 0)], [])
        other = ([[], ["a"]], [(0, "a", 0), (0, "a", 1)], [])
        self.assertEqual(self.check(world, other), 4)
        self.assertEqual(self.check(other, world), 3)
        self.assertEqual(self.check(world, world), 2)

    def test_spots_play_no_part(self):
        world = ([["a"]], [], [("x", 0)])
        self.assertIsNone(roll(world, ([["a"]], [], []), 0, 0))

    def test_twelve_points_and_many_ties(self):
        for ties in (24, 60, 144, 288):
            world = full_world(12, min(ties, 100))
            everywhere = sorted((p, tie, q) for p in range(12) for q in range(12) for tie in ("r", "s"))[:ties]
            for other in (world, (world[0], everywhere, []), ring(12)):
                self.check(world, other)
                self.check(other, world)

    def test_deep_partings_over_wide_ties(self):
        # Each point of the other is tied to all behind it, and the points part one behind the other.
        world = path(12)
        other = ([[] for _ in range(12)], sorted((p, "r", q) for p in range(12) for q in range(p + 1, 12)), [])
        self.assertEqual(self.check(world, other), 66)
        self.assertEqual(self.check(other, world), 66)
        ties = sorted((p, "r", q) for p in range(12) for q in range(max(0, p - 1), 12))
        loops = ([["a"]] + [[] for _ in range(11)], ties, [])
        self.check(loops, loops)
        self.check(loops, other)

    def test_somewhat_beyond_the_bounds(self):
        world = full_world(14, 90)
        self.check(world, path(14))
        self.check(world, full_world(14, 60))

    def test_many_made_ones(self):
        maker = Maker(14)
        many = 0
        for _ in range(200):
            world = maker.world(maker.upto(6), maker.upto(10))
            other = maker.world(maker.upto(6), maker.upto(14))
            many += self.check(world, other) + self.check(other, world) + self.check(world, world)
        self.assertGreater(many, 1000)


class Owning(unittest.TestCase):
    def test_the_worlds_handed_in_stay(self):
        maker = Maker(140)
        for _ in range(30):
            world, other = maker.world(4, 8), maker.world(5, 10)
            kept = copy.deepcopy((world, other))
            for p in range(4):
                for q in range(5):
                    roll(world, other, p, q)
            self.assertEqual((world, other), kept)

    def test_what_is_told_is_the_askers_own(self):
        world, other = ([["a"], []], [(1, "r", 0)], []), ([[]], [(0, "r", 0)], [])
        first = roll(world, other, 1, 0)
        second = roll(world, other, 1, 0)
        kept = list(second)
        first.clear()
        self.assertEqual(second, kept)
        self.assertNotEqual(kept, [])

    def test_a_world_changed_behind_the_call(self):
        world, other = ([[], []], [(0, "r", 1)], []), ([[]], [], [])
        rows = roll(world, other, 0, 0)
        kept = list(rows)
        other[1].append((0, "r", 0))
        self.assertIsNone(roll(world, other, 0, 0))
        world[0][1].append("a")
        self.assertIsNotNone(roll(world, other, 0, 0))
        self.assertEqual(rows, kept)


if __name__ == "__main__":
    unittest.main()
