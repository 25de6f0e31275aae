"""Worlds and the points of thoughts in them [10]."""

import copy
import unittest

from kindhall.worlds import points_of
from tests.made import Maker, full_world, path
from tests.samples import A, ANY, B, NONE, leaning, tied, towers

EMPTY = ([], [], [])
C = ("kind", "c")
WORLD = (
    [["a"], ["a", "b"], [], ["b"], ["ab"]],
    [(0, "r", 1), (0, "s", 2), (1, "r", 1), (2, "r", 3), (2, "r", 4), (3, "s", 0)],
    [("x", 1), ("y", 1)],
)


def is_point(world, point, thought):
    """Whether the point is one of the thought, found point by point."""
    sort = thought[0]
    if sort in ("any", "none"):
        return sort == "any"
    if sort == "kind":
        return thought[1] in world[0][point]
    if sort == "both":
        return is_point(world, point, thought[1]) and is_point(world, point, thought[2])
    return any(
        is_point(world, end, thought[2]) for start, name, end in world[1] if start == point and name == thought[1]
    )


def held_by(world, thought):
    """The set of the points of a thought: found for all points at once, as is_point takes long in wide worlds."""
    if thought[0] == "both":
        return held_by(world, thought[1]) & held_by(world, thought[2])
    if thought[0] == "some":
        inner = held_by(world, thought[2])
        return {start for start, name, end in world[1] if name == thought[1] and end in inner}
    return {point for point in range(len(world[0])) if is_point(world, point, thought)}


class Points(unittest.TestCase):
    def test_of_each_sort(self):
        for thought, told in [
            (ANY, [0, 1, 2, 3, 4]),
            (NONE, []),
            (A, [0, 1]),
            (B, [1, 3]),
            (("kind", "ab"), [4]),
            (C, []),
            (("both", A, B), [1]),
            (("both", B, A), [1]),
            (("both", A, A), [0, 1]),
            (("both", A, ANY), [0, 1]),
            (("both", ANY, A), [0, 1]),
            (("both", A, NONE), []),
            (("both", NONE, A), []),
            (("some", "r", ANY), [0, 1, 2]),
            (("some", "s", ANY), [0, 3]),
            (("some", "t", ANY), []),
            (("some", "r", NONE), []),
            (("some", "r", A), [0, 1]),
            (("some", "r", B), [0, 1, 2]),
            (("some", "s", A), [3]),
            (("some", "r", C), []),
            (("some", "r", ("some", "r", B)), [0, 1]),
            (("some", "s", ("some", "r", B)), [0, 3]),
            (("some", "s", ("some", "s", ("some", "r", B))), [3]),
            (("both", ("some", "r", B), ("some", "s", ANY)), [0]),
            (("some", "r", ("both", A, B)), [0, 1]),
            (("both", ("some", "r", ("kind", "ab")), ("some", "r", B)), [2]),
            (("some", "r", ("both", ("kind", "ab"), B)), []),
        ]:
            with self.subTest(thought=thought):
                self.assertEqual(points_of(WORLD, thought), told)

    def test_a_world_without_points(self):
        for thought in (ANY, NONE, A, ("both", A, ANY), ("some", "r", ANY), tied(12)[0]):
            self.assertEqual(points_of(EMPTY, thought), [])

    def test_a_world_of_one_point(self):
        for marks, ties, thought, told in [
            ([[]], [], ANY, [0]),
            ([[]], [], NONE, []),
            ([[]], [], A, []),
            ([["a"]], [], A, [0]),
            ([["a"]], [], ("some", "r", A), []),
            ([["a"]], [(0, "r", 0)], ("some", "r", A), [0]),
            ([["a"]], [(0, "r", 0)], ("some", "s", A), []),
            ([["a"]], [(0, "r", 0)], ("some", "r", B), []),
            ([["a"]], [(0, "r", 0)], ("some", "r", ("some", "r", ("both", A, ANY))), [0]),
        ]:
            self.assertEqual(points_of((marks, ties, []), thought), told, (marks, ties, thought))

    def test_a_tie_of_a_point_to_itself_goes_on_and_on(self):
        world = ([["a"], []], [(0, "r", 0), (1, "r", 0)], [])
        for many in (1, 2, 12, 13):
            self.assertEqual(points_of(world, tied(many)[0]), [0, 1])

    def test_ties_go_one_way(self):
        world = ([["a"], ["b"]], [(0, "r", 1)], [])
        self.assertEqual(points_of(world, ("some", "r", B)), [0])
        self.assertEqual(points_of(world, ("some", "r", A)), [])

    def test_a_point_tied_to_several_is_told_once(self):
        world = ([["a"], ["a"], ["a"]], [(1, "r", 0), (1, "r", 1), (1, "r", 2), (1, "s", 0)], [])
        self.assertEqual(points_of(world, ("some", "r", A)), [1])

    def test_spots_play_no_part(self):
        self.assertEqual(points_of(([[]], [], [("a", 0)]), A), [])

    def test_one_name_of_three_sorts(self):
        world = ([["a"], []], [(1, "a", 0)], [("a", 1)])
        self.assertEqual(points_of(world, A), [0])
        self.assertEqual(points_of(world, ("some", "a", A)), [1])

    def test_great_depths(self):
        world = path(20)
        for many in (11, 12, 13, 19):
            thought = ANY
            for _ in range(many):
                thought = ("some", "r", thought)
            self.assertEqual(points_of(world, thought), list(range(20 - many)))
        world = ([["a", "b"], ["a"], ["b"]], [], [])
        for many in (12, 13):
            for left in (True, False):
                self.assertEqual(points_of(world, leaning(many, left)[0]), [0])

    def test_a_wide_thought(self):
        world = ([["a"], ["a", "b"], ["b"]], [(0, "r", 2), (2, "r", 0)], [])
        thought = ("both", ("some", "r", ANY), A)
        for _ in range(6):
            thought = ("both", thought, thought)
        self.assertEqual(points_of(world, thought), [0])
        self.assertEqual(points_of(world, ("some", "r", thought)), [2])

    def test_at_and_beyond_the_bounds(self):
        for points, ties in ((60, 400), (70, 500)):
            world = full_world(points, ties)
            self.assertEqual((len(world[0]), len(world[1])), (points, ties))
            self.assertEqual(points_of(world, ANY), list(range(points)))
            for thought in [found for many in (1, 2, 12, 13) for found, text in towers(many)]:
                self.assertEqual(points_of(world, thought), sorted(held_by(world, thought)))

    def test_many_made_ones(self):
        maker = Maker(10)
        for _ in range(400):
            world = maker.world(maker.upto(6), maker.upto(14))
            thought = maker.thought(4)
            told = [point for point in range(len(world[0])) if is_point(world, point, thought)]
            self.assertEqual(points_of(world, thought), told, (world, thought))


class Owning(unittest.TestCase):
    def test_what_is_told_is_the_askers_own(self):
        for thought in (ANY, NONE, A, ("both", A, B), ("some", "r", A)):
            first = points_of(WORLD, thought)
            second = points_of(WORLD, thought)
            kept = list(second)
            self.assertIs(type(first), list)
            first.append(99)
            self.assertEqual(second, kept)
            self.assertEqual(points_of(WORLD, thought), kept)

    def test_the_world_handed_in_stays(self):
        world = copy.deepcopy(WORLD)
        for thought in (ANY, A, ("both", A, B), ("some", "r", ("some", "s", A))):
            points_of(world, thought)
        self.assertEqual(world, WORLD)

    def test_a_world_changed_behind_the_call(self):
        world = ([["a"], []], [(0, "r", 1)], [])
        thought = ("some", "r", A)
        first = points_of(world, thought)
        self.assertEqual(first, [])
        world[1].append((1, "r", 0))
        self.assertEqual(points_of(world, thought), [1])
        world[0][1].append("a")
        self.assertEqual(points_of(world, thought), [0, 1])
        world[0].append([])
        self.assertEqual(points_of(world, ANY), [0, 1, 2])
        world[1].clear()
        self.assertEqual(points_of(world, thought), [])
        self.assertEqual(first, [])


if __name__ == "__main__":
    unittest.main()
