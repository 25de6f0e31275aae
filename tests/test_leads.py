"""Which points lead to which [13]."""

import copy
import math
import unittest

from kindhall.leads import led
from tests.made import Maker, full_world, path, ring

EMPTY = ([], [], [])


def slow_led(world, other):
    """The greatest list of pairs that the point tells, by striking pairs until none is left to strike."""
    onward = {}
    for y, r, w in other[1]:
        onward.setdefault((y, r), []).append(w)
    pairs = {
        (x, y) for x, kinds in enumerate(world[0]) for y, others in enumerate(other[0]) if set(kinds) <= set(others)
    }
    while True:
        struck = {
            (x, y) for x, r, z in world[1] for y in range(len(other[0]))
            if (x, y) in pairs and not any((z, w) in pairs for w in onward.get((y, r), []))
        }
        if not struck:
            return sorted(pairs)
        pairs -= struck


class Leads(unittest.TestCase):
    def check(self, world, other, told):
        self.assertEqual(led(world, other), told)
        self.assertEqual(slow_led(world, other), told)

    def test_marks(self):
        world = ([[], ["a"], ["a", "b"]], [], [])
        self.check(world, world, [(0, 0), (0, 1), (0, 2), (1, 1), (1, 2), (2, 2)])
        self.check(world, ([["b"], ["c"]], [], []), [(0, 0), (0, 1)])
        self.check(([["b"], ["c"]], [], []), world, [(0, 2)])

    def test_ties(self):
        world = ([[], [], ["a"]], [(0, "r", 1), (1, "r", 2)], [])
        other = ([[], ["a"]], [(0, "r", 0), (0, "r", 1)], [])
        self.check(world, other, [(0, 0), (1, 0), (2, 1)])
        self.check(other, world, [(1, 2)])
        self.check(world, world, [(0, 0), (1, 1), (2, 2)])

    def test_all_ties_of_the_first_count_and_one_of_the_other(self):
        world = ([[], ["a"], ["b"]], [(0, "r", 1), (0, "r", 2)], [])
        other = ([[], ["a"], ["b"], ["a", "b"], [], []], [(0, "r", 1), (4, "r", 3), (5, "r", 1), (5, "r", 2)], [])
        self.check(world, other, [(0, 4), (0, 5), (1, 1), (1, 3), (2, 2), (2, 3)])

    def test_one_point_for_all_ties_and_not_each_for_one(self):
        # The tie's end must be of both kinds at once.
        world = ([[], ["a", "b"]], [(0, "r", 1)], [])
        other = ([[], ["a"], ["b"]], [(0, "r", 1), (0, "r", 2)], [])
        self.check(world, other, [])
        self.check(other, world, [(0, 0), (1, 1), (2, 1)])

    def test_worlds_without_points(self):
        one = ([[]], [], [])
        self.check(EMPTY, EMPTY, [])
        self.check(EMPTY, one, [])
        self.check(one, EMPTY, [])
        self.check(one, one, [(0, 0)])

    def test_a_point_without_kinds_and_ties_leads_anywhere(self):
        bare = ([[]], [], [])
        world = ([["a"], []], [(0, "r", 1)], [])
        self.check(bare, world, [(0, 0), (0, 1)])
        self.check(world, bare, [(1, 0)])

    def test_a_tie_of_a_name_that_the_other_lacks(self):
        world = ([[], [], []], [(0, "s", 2), (1, "r", 0)], [])
        other = ([[], []], [(0, "r", 0), (0, "r", 1)], [])
        self.check(world, other, [(2, 0), (2, 1)])
        self.check(other, world, [(1, 0), (1, 1), (1, 2)])

    def test_a_tie_of_a_point_to_itself(self):
        loop = ring(1)
        self.check(loop, path(5), [])
        self.check(path(5), loop, [(point, 0) for point in range(5)])
        self.check(loop, loop, [(0, 0)])

    def test_rings_of_unlike_lengths(self):
        for one, other in ((3, 4), (1, 5), (6, 6), (59, 60), (60, 7)):
            everything = [(p, q) for p in range(one) for q in range(other)]
            self.assertEqual(led(ring(one), ring(other)), everything)
            self.assertEqual(led(ring(one, tie="s"), ring(other)), [])

    def test_marked_rings(self):
        self.check(ring(3, [0]), ring(3, [0]), [(0, 0), (1, 1), (2, 2)])
        self.check(ring(6, [0, 3]), ring(3, [0]), [(0, 0), (1, 1), (2, 2), (3, 0), (4, 1), (5, 2)])
        self.check(ring(6, [0]), ring(3, [0]), [(0, 0), (1, 1), (2, 2), (3, 0), (4, 1), (5, 2)])
        self.check(ring(3, [0]), ring(6, [0, 3]), [(0, 0), (0, 3), (1, 1), (1, 4), (2, 2), (2, 5)])
        self.check(ring(3, [0]), ring(6, [0]), [])
        self.check(ring(2, [0]), ring(3, [0, 1]), [])

    def test_a_parting_that_goes_round_for_long(self):
        # One pair alone parts by kinds, and all others part since it does, one by one.
        world = ring(59, range(59))
        other = ring(60, range(59))
        self.assertEqual(math.gcd(59, 60), 1)
        self.assertEqual(led(world, other), [])
        self.assertEqual(len(led(ring(59), other)), 59 * 60)

    def test_paths(self):
        self.assertEqual(led(path(60), path(60)), [(p, q) for p in range(60) for q in range(60) if 59 - p <= 59 - q])
        self.assertEqual(led(ring(60), path(60)), [])
        self.assertEqual(led(path(60), ring(60)), [(p, q) for p in range(60) for q in range(60)])

    def test_one_name_of_a_kind_and_a_tie(self):
        world = ([["a"], []], [(1, "a", 0)], [("a", 1)])
        self.check(world, world, [(0, 0), (1, 1)])
        self.check(world, ([["a"], []], [], []), [(0, 0)])
        self.check(world, ([[]], [(0, "a", 0)], []), [])

    def test_spots_play_no_part(self):
        world = ([["a"], []], [(0, "r", 1)], [("x", 0), ("y", 1)])
        other = ([["a"], []], [(0, "r", 1)], [("x", 1)])
        bare = ([["a"], []], [(0, "r", 1)], [])
        told = [(0, 0), (1, 0), (1, 1)]
        for one in (world, other, bare):
            for two in (world, other, bare):
                self.check(one, two, told)

    def test_at_and_beyond_the_bounds(self):
        for points, ties in ((60, 400), (66, 450)):
            for names in (("r",), ("r", "s")):
                world = full_world(points, ties, names)
                other = full_world(points, ties - 30, names)
                for one, two in ((world, world), (world, other), (other, world)):
                    self.assertEqual(led(one, two), slow_led(one, two))
                self.assertEqual([pair for pair in led(world, world) if pair[0] == pair[1]], [(p, p) for p in range(points)])

    def test_many_made_ones(self):
        maker = Maker(13)
        several = 0
        for _ in range(600):
            world = maker.world(maker.upto(5), maker.upto(8))
            other = maker.world(maker.upto(6), maker.upto(14))
            for one, two in ((world, other), (other, world), (world, world)):
                told = led(one, two)
                self.assertEqual(told, slow_led(one, two), (one, two))
                several += len(told) > 2
        self.assertGreater(several, 100)


class Owning(unittest.TestCase):
    def test_the_worlds_handed_in_stay(self):
        maker = Maker(130)
        for _ in range(50):
            world, other = maker.world(4, 8), maker.world(5, 10)
            kept = copy.deepcopy((world, other))
            led(world, other)
            led(world, world)
            self.assertEqual((world, other), kept)

    def test_what_is_told_is_the_askers_own(self):
        world = ring(3, [0])
        first = led(world, world)
        second = led(world, world)
        kept = list(second)
        self.assertIs(type(first), list)
        self.assertEqual({type(pair) for pair in first}, {tuple})
        first.clear()
        self.assertEqual(second, kept)
        self.assertEqual(led(world, world), kept)

    def test_a_world_changed_behind_the_call(self):
        world = ([[], []], [(0, "r", 1)], [])
        first = led(world, world)
        self.assertEqual(first, [(0, 0), (1, 0), (1, 1)])
        world[1].append((1, "r", 0))
        self.assertEqual(led(world, world), [(0, 0), (0, 1), (1, 0), (1, 1)])
        world[0][0].append("a")
        self.assertEqual(led(world, world), [(0, 0), (1, 1)])
        self.assertEqual(first, [(0, 0), (1, 0), (1, 1)])


if __name__ == "__main__":
    unittest.main()
