"""Crossings of sets [33]."""

import copy
import itertools
import unittest

from kindhall.crossings import crossings
from tests.made import Maker


def slow_crossings(sets):
    """The crossings, by trying all lists of the numbers that stand in the sets."""
    numbers = sorted({number for one in sets for number in one})
    crossing = []
    for many in range(len(numbers) + 1):
        for found in itertools.combinations(numbers, many):
            if all(set(found) & set(one) for one in sets):
                if not any(set(smaller) < set(found) for smaller in crossing):
                    crossing.append(list(found))
    return sorted(crossing)


def least_sets(sets):
    """The sets that have no other set within them, each once, sorted."""
    return sorted(list(one) for one in {tuple(one) for one in sets} if not any(set(other) < set(one) for other in sets))


class Crossings(unittest.TestCase):
    def check(self, sets, told):
        found = crossings(sets)
        self.assertEqual(found, told)
        self.assertIs(type(found), list)
        self.assertTrue(all(type(one) is list for one in found))
        self.assertEqual(slow_crossings(sets), told)
        self.assertEqual(crossings(found), least_sets(sets))

    def test_no_sets(self):
        self.check([], [[]])

    def test_an_empty_set_among_them(self):
        self.check([[]], [])
        self.check([[1, 2], []], [])
        self.check([[], [1, 2]], [])
        self.check([[1], [], [2], []], [])

    def test_one_set(self):
        self.check([[5]], [[5]])
        self.check([[1, 2, 3]], [[1], [2], [3]])

    def test_two_sets(self):
        self.check([[1, 2], [3, 4]], [[1, 3], [1, 4], [2, 3], [2, 4]])
        self.check([[1, 2], [2, 3]], [[1, 3], [2]])
        self.check([[1], [2]], [[1, 2]])
        self.check([[2], [1]], [[1, 2]])

    def test_alike_sets(self):
        self.check([[1, 2], [1, 2], [1, 2]], [[1], [2]])
        self.check([[1, 2], [3], [1, 2], [3]], [[1, 3], [2, 3]])

    def test_sets_within_sets(self):
        self.check([[1, 2, 3], [1, 2]], [[1], [2]])
        self.check([[1, 2], [1, 2, 3]], [[1], [2]])
        self.check([[1], [1, 2], [1, 2, 3]], [[1]])
        self.check([[1, 2, 3], [1, 2], [2]], [[2]])

    def test_a_ring(self):
        self.check([[1, 2], [2, 3], [1, 3]], [[1, 2], [1, 3], [2, 3]])
        self.check([[1, 2], [2, 3], [3, 4], [1, 4]], [[1, 3], [2, 4]])

    def test_numbers_below_nought_and_great_ones(self):
        great = 10 ** 59
        self.check([[-5, great], [0, great]], [[-5, 0], [great]])
        self.check([[-great, -1], [-1, 7]], [[-great, 7], [-1]])

    def test_sorted_as_lists_are(self):
        self.check([[2, 10], [2, 11], [3, 10]], [[2, 3], [2, 10], [10, 11]])

    def test_eight_numbers(self):
        self.check([[1, 2], [3, 4], [5, 6], [7, 8]], sorted(list(one) for one in itertools.product([1, 2], [3, 4], [5, 6], [7, 8])))
        self.check([[number] for number in range(1, 9)], [list(range(1, 9))])
        self.check([list(one) for one in itertools.combinations(range(8), 4)],
                   [list(one) for one in itertools.combinations(range(8), 5)])
        self.check([list(one) for one in itertools.combinations(range(8), 5)],
                   [list(one) for one in itertools.combinations(range(8), 4)])

    def test_all_sets_of_eight_numbers(self):
        sets = [list(one) for many in range(1, 9) for one in itertools.combinations(range(8), many)]
        self.assertEqual(len(sets), 255)
        self.check(sets, [list(range(8))])
        self.check(sets[::-1], [list(range(8))])

    def test_nine_and_ten_numbers(self):
        self.check([list(one) for one in itertools.combinations(range(9), 5)],
                   [list(one) for one in itertools.combinations(range(9), 5)])
        self.check([[number, number + 1] for number in range(0, 10, 2)],
                   sorted(list(one) for one in itertools.product(*[[number, number + 1] for number in range(0, 10, 2)])))

    def test_three_hundred_sets(self):
        maker = Maker(330)
        for many in (300, 320):
            sets = [sorted(maker.chance.sample(range(8), 2 + maker.upto(3))) for _ in range(many)]
            self.check(sets, slow_crossings(sets))

    def test_made_ones(self):
        maker = Maker(33)
        for _ in range(400):
            sets = [sorted({maker.upto(7) for _ in range(1 + maker.upto(3))}) for _ in range(maker.upto(6))]
            self.check(sets, slow_crossings(sets))


class Owning(unittest.TestCase):
    def test_what_is_handed_in_stays(self):
        for sets in ([], [[]], [[1, 2], [2, 3]], [[1], [2]], [[4, 5, 6]]):
            before = copy.deepcopy(sets)
            told = crossings(sets)
            kept = copy.deepcopy(told)
            self.assertEqual(sets, before)
            for one in told:
                one.append(99)
            told.append([98])
            self.assertEqual(sets, before)
            self.assertEqual(crossings(sets), kept)

    def test_changes_behind_the_call(self):
        sets = [[1, 2]]
        told = crossings(sets)
        sets[0].append(3)
        sets.append([3])
        self.assertEqual(told, [[1], [2]])
        self.assertEqual(crossings(sets), [[3]])


if __name__ == "__main__":
    unittest.main()
