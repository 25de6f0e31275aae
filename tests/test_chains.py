"""The places of conclusions, chains to them, and what steps lean on [18, 19, 20]."""

import copy
import unittest

from kindhall.chains import chain, freed, leaned, place
from kindhall.closing import closed
from tests.made import Maker
from tests.rules import right_log
from tests.samples import A, ANY, B, towers


def fact(at):
    """One conclusion for each number."""
    letters = "abcdefghijklmnopqrstuvwxyz"
    name = letters[at // 676 % 26] + letters[at // 26 % 26] + letters[at % 26]
    return ("is", ("thing", "x"), ("kind", name))


# Rules, conclusions and numbers are taken as they stand: no step of this log follows from anything.
LOG = [
    ("any", fact(0), (), 5),
    ("left", fact(1), (0,), None),
    ("nowhere", fact(2), (), None),
    ("both", fact(1), (2, 2), 3),
    ("in", fact(4), (1, 2), 9),
    ("in", fact(5), (3, 1, 0), -1),
    ("fall", fact(6), (5, 4, 5), 3),
    ("self", fact(2), (), 0),
    ("under", fact(8), (7,), 5),
]


def slow_leaned(log, at):
    """The set of the numbers that a step leans on."""
    rule, conclusion, ahead, number = log[at]
    found = set() if number is None else {number}
    return found.union(*[slow_leaned(log, earlier) for earlier in ahead])


def slow_needed(log, at):
    """The set of the places of a step and of all that it came by."""
    return {at}.union(*[slow_needed(log, earlier) for earlier in log[at][2]])


def without(log, kept):
    """The log of the kept places alone."""
    kept = sorted(kept)
    return [
        (log[at][0], log[at][1], tuple(kept.index(earlier) for earlier in log[at][2]), log[at][3]) for at in kept
    ]


def made_log(maker, many):
    """A log with steps at random, none of which follows from anything."""
    log = []
    for at in range(many):
        ahead = tuple(maker.upto(at - 1) for _ in range(maker.upto(3))) if at else ()
        number = maker.one([None, None, -1, 0, 1, 2, 3, 10, 10 ** 59])
        log.append((maker.one(["self", "both", "nowhere"]), fact(maker.upto(many)), ahead, number))
    return log


class Places(unittest.TestCase):
    def test_once_twice_and_not_at_all(self):
        for at, told in ((0, 0), (1, 1), (2, 2), (3, None), (4, 4), (5, 5), (6, 6), (7, None), (8, 8), (9, None)):
            self.assertEqual(place(LOG, fact(at)), told, at)

    def test_an_empty_log(self):
        self.assertIsNone(place([], fact(0)))

    def test_near_conclusions_are_unlike(self):
        log = [("r", ("tied", A, "r", B), (), None), ("r", ("is", ANY, B), (), None), ("r", ("is", A, B), (), None)]
        self.assertEqual(place(log, ("is", A, B)), 2)
        self.assertEqual(place(log, ("tied", A, "r", B)), 0)
        self.assertIsNone(place(log, ("tied", A, "s", B)))
        self.assertIsNone(place(log, ("tied", B, "r", A)))
        self.assertIsNone(place(log, ("is", ("thing", "a"), B)))

    def test_great_depths(self):
        for many in (12, 13, 40):
            for thought, text in towers(many):
                log = [LOG[0], ("self", ("is", ("some", "r", thought), A), (), None), ("self", ("is", thought, A), (), None)]
                self.assertEqual(place(log, ("is", thought, A)), 2)


class Chains(unittest.TestCase):
    def check(self, log, conclusion, kept):
        told = chain(log, conclusion)
        self.assertEqual(told, without(log, kept))
        self.assertEqual(told[-1][1], conclusion)

    def test_each(self):
        for at, kept in ((0, [0]), (1, [0, 1]), (2, [2]), (4, [0, 1, 2, 4]), (5, [0, 1, 2, 3, 5]), (8, [7, 8])):
            self.check(LOG, fact(at), kept)
        self.check(LOG, fact(6), [0, 1, 2, 3, 4, 5, 6])

    def test_written_out(self):
        self.assertEqual(chain(LOG, fact(8)), [("self", fact(2), (), 0), ("under", fact(8), (0,), 5)])
        self.assertEqual(chain(LOG, fact(1)), [("any", fact(0), (), 5), ("left", fact(1), (0,), None)])

    def test_one_place_twice(self):
        log = [LOG[0], LOG[2], ("both", fact(3), (1, 1), 3)]
        self.assertEqual(chain(log, fact(3)), [("nowhere", fact(2), (), None), ("both", fact(3), (0, 0), 3)])

    def test_no_step_has_it(self):
        self.assertIsNone(chain(LOG, fact(3)))
        self.assertIsNone(chain([], fact(0)))

    def test_a_conclusion_that_stands_twice(self):
        # The first step that has it counts, also where a later one came by less.
        self.assertEqual(chain(LOG, fact(2)), [LOG[2]])
        log = [LOG[0], ("left", fact(1), (0,), None), ("self", fact(1), (), None)]
        self.assertEqual(chain(log, fact(1)), log[:2])

    def test_steps_of_one_conclusion_stay_two(self):
        log = [("self", fact(0), (), 1), ("self", fact(0), (), 2), ("both", fact(1), (1, 0), None)]
        self.assertEqual(chain(log, fact(1)), log)

    def test_many_made_ones(self):
        maker = Maker(19)
        for _ in range(200):
            log = made_log(maker, maker.upto(12))
            for step in log:
                self.check(log, step[1], slow_needed(log, place(log, step[1])))


class Leaning(unittest.TestCase):
    def test_each_step(self):
        self.assertEqual(leaned(LOG), [[5], [5], [], [3], [5, 9], [-1, 3, 5], [-1, 3, 5, 9], [0], [0, 5]])

    def test_an_empty_log(self):
        self.assertEqual(leaned([]), [])
        self.assertEqual(freed([], 1), [])

    def test_nought_is_a_number(self):
        log = [("link", fact(0), (), 0), ("left", fact(1), (0,), None)]
        self.assertEqual(leaned(log), [[0], [0]])
        self.assertEqual(freed(log, 0), [])

    def test_freed(self):
        for number, kept in [
            (5, [2, 3, 7]), (3, [0, 1, 2, 4, 7, 8]), (9, [0, 1, 2, 3, 5, 7, 8]), (-1, [0, 1, 2, 3, 4, 7, 8]),
            (0, [0, 1, 2, 3, 4, 5, 6]), (1, range(9)), (100, range(9)),
        ]:
            self.assertEqual(freed(LOG, number), without(LOG, kept), number)

    def test_written_out(self):
        self.assertEqual(freed(LOG, 5), [LOG[2], ("both", fact(1), (0, 0), 3), LOG[7]])

    def test_freed_of_what_everything_leans_on(self):
        log = [("mark", fact(0), (), 1), ("left", fact(1), (0,), 2), ("both", fact(2), (1, 0), None), ("mark", fact(3), (), 1)]
        self.assertEqual(freed(log, 1), [])
        self.assertEqual(freed(log, 2), [log[0], log[3]])
        self.assertEqual(freed(log, 3), log)

    def test_many_made_ones(self):
        maker = Maker(20)
        for _ in range(200):
            log = made_log(maker, maker.upto(12))
            leaning = [slow_leaned(log, at) for at in range(len(log))]
            self.assertEqual(leaned(log), [sorted(numbers) for numbers in leaning])
            for number in (-1, 0, 1, 2, 3, 7, 10, 10 ** 59):
                kept = [at for at, numbers in enumerate(leaning) if number not in numbers]
                self.assertEqual(freed(log, number), without(log, kept))

    def test_logs_of_the_closing_stay_sound(self):
        maker = Maker(21)
        for _ in range(60):
            book = maker.book(6, 2)
            log = closed(book, [maker.thought(2)])
            for step in log[::3]:
                self.assertTrue(right_log(book, chain(log, step[1])))
            for number, saying in book:
                rest = [row for row in book if row[0] != number]
                self.assertTrue(right_log(rest, freed(log, number)))


class LongLogs(unittest.TestCase):
    def test_each_step_by_the_one_ahead(self):
        for many in (2000, 2500):
            log = [("self", fact(0), (), 1)]
            log += [("under", fact(at), (at - 1,), at % 40 + 1) for at in range(1, many)]
            self.assertEqual(place(log, fact(many - 1)), many - 1)
            self.assertEqual(chain(log, fact(many - 1)), log)
            self.assertEqual(chain(log, fact(many - 2)), log[:-1])
            numbers = leaned(log)
            self.assertEqual(numbers[0], [1])
            self.assertEqual(numbers[5], [1, 2, 3, 4, 5, 6])
            self.assertEqual(numbers[-1], list(range(1, 41)))
            self.assertEqual(freed(log, 1), [])
            self.assertEqual(freed(log, 40), log[:39])
            self.assertEqual(freed(log, 41), log)

    def test_each_step_with_a_number_of_its_own(self):
        log = [("under", fact(at), (at - 1, at - 1) if at else (), -at) for at in range(2000)]
        numbers = leaned(log)
        self.assertEqual(numbers[1999], list(range(-1999, 1)))
        self.assertEqual(freed(log, -1000), log[:1000])

    def test_ways_that_part_and_meet(self):
        # There are far more ways through such a log than steps.
        log = [("self", fact(0), (), 1), ("self", fact(1), (), 2)]
        log += [("both", fact(at), (at - 1, at - 2), None) for at in range(2, 2000)]
        self.assertEqual(leaned(log)[-1], [1, 2])
        self.assertEqual(chain(log, fact(1999)), log)
        self.assertEqual(freed(log, 2), log[:1])


class Owning(unittest.TestCase):
    def test_what_is_handed_in_stays(self):
        kept = copy.deepcopy(LOG)
        for at in range(10):
            place(LOG, fact(at))
            chain(LOG, fact(at))
            freed(LOG, at)
        leaned(LOG)
        self.assertEqual(LOG, kept)

    def test_what_is_told_is_the_askers_own(self):
        for ask in (lambda: leaned(LOG), lambda: chain(LOG, fact(6)), lambda: freed(LOG, 100)):
            first, second = ask(), ask()
            kept = copy.deepcopy(second)
            self.assertIs(type(first), list)
            first.clear()
            self.assertEqual(second, kept)
            self.assertEqual(ask(), kept)
        first = leaned(LOG)
        first[0].append(77)
        self.assertEqual(first[1], [5])
        self.assertEqual(leaned(LOG)[0], [5])
        for told in (chain(LOG, fact(6)), freed(LOG, 100)):
            self.assertIsNot(told, LOG)
            self.assertEqual({(type(step), type(step[2])) for step in told}, {(tuple, tuple)})

    def test_a_log_changed_behind_the_call(self):
        log = list(LOG)
        told = freed(log, 100)
        numbers = leaned(log)
        log[0] = ("any", fact(0), (), 6)
        log.pop()
        self.assertEqual(told, LOG)
        self.assertEqual(numbers[0], [5])
        self.assertEqual(leaned(log)[0], [6])
        self.assertEqual(freed(log, 5), log)
        log.clear()
        self.assertIsNone(place(log, fact(0)))
        self.assertIsNone(chain(log, fact(0)))


if __name__ == "__main__":
    unittest.main()
