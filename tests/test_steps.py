"""Steps that follow by the rules, and those that do not; sound logs [15, 16]."""

import copy
import unittest

from kindhall.steps import follows, sound
from tests.rules import RULES, right, right_log
from tests.samples import A, ANY, B, NONE, towers

C = ("kind", "c")
X = ("thing", "x")
Y = ("thing", "y")
Z = ("thing", "z")
BOTH = ("both", A, B)
SOME = ("some", "r", A)
BOOK = [
    (1, ("every", A, B)), (2, ("same", SOME, C)), (4, ("no", A, B)), (5, ("tie", "r", "s")),
    (7, ("chain", "r", "s", "t")), (8, ("runs", "r")), (9, ("thing", "x", BOTH)), (12, ("link", "x", "r", "y")),
    (13, ("every", A, C)), (14, ("tie", "s", "t")), (15, ("link", "y", "s", "x")), (16, ("thing", "y", A)),
    (17, ("link", "x", "r", "x")),
]

# Each rule with the conclusions that stand ahead, the number and the conclusion that follows.
CASES = [
    ("self", [], None, ("is", A, A)),
    ("self", [], None, ("is", SOME, SOME)),
    ("self", [], None, ("is", ANY, ANY)),
    ("self", [], None, ("is", NONE, NONE)),
    ("any", [], None, ("is", A, ANY)),
    ("any", [], None, ("is", BOTH, ANY)),
    ("any", [], None, ("is", NONE, ANY)),
    ("any", [], None, ("is", ANY, ANY)),
    ("there", [("is", X, A)], None, ("is", X, ANY)),
    ("there", [("is", X, NONE)], None, ("is", X, ANY)),
    ("there", [("tied", X, "r", A)], None, ("is", X, ANY)),
    ("there", [("tied", A, "r", X)], None, ("is", X, ANY)),
    ("there", [("tied", Y, "r", X)], None, ("is", X, ANY)),
    ("there", [("tied", Y, "r", X)], None, ("is", Y, ANY)),
    ("there", [("tied", X, "r", X)], None, ("is", X, ANY)),
    ("mark", [], 9, ("is", X, BOTH)),
    ("mark", [], 16, ("is", Y, A)),
    ("link", [], 12, ("tied", X, "r", Y)),
    ("link", [], 15, ("tied", Y, "s", X)),
    ("link", [], 17, ("tied", X, "r", X)),
    ("under", [("is", C, A)], 1, ("is", C, B)),
    ("under", [("is", A, A)], 1, ("is", A, B)),
    ("under", [("is", X, A)], 1, ("is", X, B)),
    ("under", [("is", X, A)], 13, ("is", X, C)),
    ("under", [("is", Y, SOME)], 2, ("is", Y, C)),
    ("under", [("is", Y, C)], 2, ("is", Y, SOME)),
    ("under", [("is", X, BOTH)], 4, ("is", X, NONE)),
    ("under", [("is", C, BOTH)], 4, ("is", C, NONE)),
    ("left", [("is", X, BOTH)], None, ("is", X, A)),
    ("left", [("is", C, BOTH)], None, ("is", C, A)),
    ("left", [("is", C, ("both", SOME, BOTH))], None, ("is", C, SOME)),
    ("right", [("is", X, BOTH)], None, ("is", X, B)),
    ("right", [("is", BOTH, BOTH)], None, ("is", BOTH, B)),
    ("right", [("is", C, ("both", SOME, BOTH))], None, ("is", C, BOTH)),
    ("both", [("is", X, A), ("is", X, B)], None, ("is", X, BOTH)),
    ("both", [("is", C, A), ("is", C, B)], None, ("is", C, BOTH)),
    ("both", [("is", C, A), ("is", C, A)], None, ("is", C, ("both", A, A))),
    ("both", [("is", C, SOME), ("is", C, NONE)], None, ("is", C, ("both", SOME, NONE))),
    ("out", [("is", X, SOME)], None, ("tied", X, "r", A)),
    ("out", [("is", B, SOME)], None, ("tied", B, "r", A)),
    ("out", [("is", SOME, ("some", "s", SOME))], None, ("tied", SOME, "s", SOME)),
    ("in", [("tied", X, "r", Y), ("is", Y, A)], None, ("is", X, SOME)),
    ("in", [("tied", X, "r", B), ("is", B, A)], None, ("is", X, SOME)),
    ("in", [("tied", C, "r", B), ("is", B, A)], None, ("is", C, SOME)),
    ("in", [("tied", C, "r", Y), ("is", Y, A)], None, ("is", C, SOME)),
    ("in", [("tied", C, "s", NONE), ("is", NONE, ANY)], None, ("is", C, ("some", "s", ANY))),
    ("sub", [("tied", X, "r", Y)], 5, ("tied", X, "s", Y)),
    ("sub", [("tied", A, "r", B)], 5, ("tied", A, "s", B)),
    ("sub", [("tied", A, "s", B)], 14, ("tied", A, "t", B)),
    ("sub", [("tied", X, "r", B)], 5, ("tied", X, "s", B)),
    ("chain", [("tied", X, "r", Y), ("tied", Y, "s", Z)], 7, ("tied", X, "t", Z)),
    ("chain", [("tied", A, "r", B), ("tied", B, "s", C)], 7, ("tied", A, "t", C)),
    ("chain", [("tied", X, "r", B), ("tied", B, "s", Z)], 7, ("tied", X, "t", Z)),
    ("chain", [("tied", A, "r", Y), ("tied", Y, "s", C)], 7, ("tied", A, "t", C)),
    ("chain", [("tied", X, "r", Y), ("tied", Y, "r", Z)], 8, ("tied", X, "r", Z)),
    ("chain", [("tied", A, "r", A), ("tied", A, "r", A)], 8, ("tied", A, "r", A)),
    ("void", [("tied", X, "r", Y), ("is", Y, NONE)], None, ("is", X, NONE)),
    ("void", [("tied", A, "s", B), ("is", B, NONE)], None, ("is", A, NONE)),
    ("void", [("tied", X, "s", B), ("is", B, NONE)], None, ("is", X, NONE)),
    ("void", [("tied", A, "s", Y), ("is", Y, NONE)], None, ("is", A, NONE)),
    ("void", [("tied", A, "s", NONE), ("is", NONE, NONE)], None, ("is", A, NONE)),
    ("all", [("is", X, NONE)], None, ("is", X, SOME)),
    ("all", [("is", A, NONE)], None, ("is", A, ("both", C, ANY))),
    ("all", [("is", NONE, NONE)], None, ("is", NONE, C)),
    ("fall", [("is", X, NONE)], None, ("is", A, B)),
    ("fall", [("is", X, NONE)], None, ("is", Y, A)),
    ("fall", [("is", X, NONE)], None, ("tied", B, "t", Y)),
    ("fall", [("is", X, NONE)], None, ("tied", Y, "t", B)),
]

SUBJECTS = [A, B, C, BOTH, SOME, ANY, NONE, X, Y, Z]
THOUGHTS = [A, B, C, BOTH, ("both", B, A), ("both", A, A), SOME, ("some", "s", A), ("some", "r", B), ANY, NONE]
CONCLUSIONS = [("is", s, t) for s in SUBJECTS for t in THOUGHTS] + [
    ("tied", s, r, x) for s in SUBJECTS for r in ("r", "s", "t") for x in SUBJECTS
]
NUMBERS = [None, -1, 0, 3, 6, 18, 100] + [number for number, saying in BOOK]


def laid(heads):
    """A log with the heads at places that are neither the first nor the last ones, and these places.

    The rules, places and numbers of its steps are none that a step could have: nothing but its conclusions is asked.
    """
    fillers = [("nowhere", ("is", ("kind", "q"), ("kind", "q")), (99,), -7)] * 2
    log = fillers + [("nowhere", head, (-5, 99), -7) for head in heads] + fillers
    return log, tuple(range(2, 2 + len(heads)))


def tampered(step):
    """The step with another rule, with other places, and with another number."""
    rule, conclusion, ahead, number = step
    for other in RULES + ["", "Self", "selfs", "none", "is", "tied", "every", "same", "no", "thing", "nowhere"]:
        yield other, conclusion, ahead, number
    for place in (-6, -5, -4, -3, -2, -1, 0, 1, 2, 3, 4, 5, 6, 7, 100):
        yield rule, conclusion, ahead + (place,), number
        yield rule, conclusion, (place,) + ahead, number
        for at in range(len(ahead)):
            yield rule, conclusion, ahead[:at] + (place,) + ahead[at + 1:], number
    yield rule, conclusion, ahead[::-1], number
    yield rule, conclusion, ahead[1:], number
    yield rule, conclusion, ahead[:-1], number
    yield rule, conclusion, (), number
    for other in NUMBERS:
        yield rule, conclusion, ahead, other


class Follows(unittest.TestCase):
    def check(self, book, log, step, told):
        self.assertIs(follows(book, log, step), told, (book, log, step))
        self.assertIs(right(book, log, step), told, (book, log, step))

    def test_each_rule(self):
        self.assertEqual({case[0] for case in CASES}, set(RULES))
        for rule, heads, number, conclusion in CASES:
            log, ahead = laid(heads)
            self.check(BOOK, log, (rule, conclusion, ahead, number), True)

    def test_without_further_steps_in_the_log(self):
        for rule, heads, number, conclusion in CASES:
            log = [("nowhere", head, (), None) for head in heads]
            self.check(BOOK, log, (rule, conclusion, tuple(range(len(heads))), number), True)

    def test_bent_in_its_rule_its_places_or_its_number(self):
        for rule, heads, number, conclusion in CASES:
            log, ahead = laid(heads)
            wrong = 0
            for step in tampered((rule, conclusion, ahead, number)):
                told = right(BOOK, log, step)
                self.assertIs(follows(BOOK, log, step), told, (log, step))
                wrong += not told
            self.assertGreater(wrong, 40)

    def test_bent_in_its_conclusion(self):
        for rule, heads, number, conclusion in CASES:
            log, ahead = laid(heads)
            found = [one for one in CONCLUSIONS if follows(BOOK, log, (rule, one, ahead, number))]
            told = [one for one in CONCLUSIONS if right(BOOK, log, (rule, one, ahead, number))]
            self.assertEqual(found, told, (rule, heads, number))
            most = {"self": 7, "any": 7, "there": 2, "all": len(THOUGHTS), "fall": len(CONCLUSIONS)}
            self.assertLessEqual(len(found), most.get(rule, 1), rule)

    def test_bent_in_a_conclusion_of_the_log(self):
        for rule, heads, number, conclusion in CASES:
            log, ahead = laid(heads)
            for place in ahead:
                for one in CONCLUSIONS:
                    bent = list(log)
                    bent[place] = ("nowhere", one, (), None)
                    step = (rule, conclusion, ahead, number)
                    self.assertIs(follows(BOOK, bent, step), right(BOOK, bent, step), (bent, step))

    def test_bent_in_the_saying_of_the_book(self):
        others = [saying for number, saying in BOOK] + [
            ("every", B, A), ("same", C, SOME), ("no", B, A), ("tie", "s", "r"), ("chain", "s", "r", "t"), ("runs", "s"),
            ("thing", "y", BOTH), ("thing", "x", A), ("link", "y", "r", "x"), ("link", "x", "s", "y"), ("tie", "r", "t"),
            ("chain", "r", "s", "r"), ("chain", "r", "r", "t"), ("every", A, NONE), ("same", A, B), ("same", B, A),
        ]
        for rule, heads, number, conclusion in CASES:
            if number is None:
                continue
            log, ahead = laid(heads)
            step = (rule, conclusion, ahead, number)
            wrong = 0
            for saying in others:
                book = [(found, saying if found == number else kept) for found, kept in BOOK]
                told = right(book, log, step)
                self.assertIs(follows(book, log, step), told, (saying, step))
                wrong += not told
            self.assertGreater(wrong, 20)
            self.check([row for row in BOOK if row[0] != number], log, step, False)
            self.check([], log, step, False)

    def test_the_row_must_be_of_the_numbered_saying(self):
        # Another saying has the row.
        for number in (9, 16, 12):
            self.check(BOOK, [], ("mark", ("is", Y, A), (), number), number == 16)
        log = [("nowhere", ("is", X, A), (), None)]
        self.check(BOOK, log, ("under", ("is", X, C), (0,), 1), False)
        self.check(BOOK, log, ("under", ("is", X, B), (0,), 13), False)

    def test_places_below_nought_and_at_the_length(self):
        log = [("nowhere", ("is", X, BOTH), (), None)]
        for place, told in ((-2, False), (-1, False), (0, True), (1, False), (2, False)):
            self.check(BOOK, log, ("left", ("is", X, A), (place,), None), told)
        self.check(BOOK, [], ("left", ("is", X, A), (0,), None), False)
        self.check(BOOK, [], ("left", ("is", X, A), (-1,), None), False)

    def test_places_turned_about(self):
        log = [
            ("nowhere", ("tied", X, "r", Y), (), None), ("nowhere", ("is", Y, A), (), None),
            ("nowhere", ("tied", Y, "s", X), (), None), ("nowhere", ("is", Y, B), (), None),
            ("nowhere", ("is", Y, NONE), (), None),
        ]
        for rule, conclusion, ahead, number in [
            ("in", ("is", X, SOME), (0, 1), None),
            ("chain", ("tied", X, "t", X), (0, 2), 7),
            ("both", ("is", Y, BOTH), (1, 3), None),
            ("void", ("is", X, NONE), (0, 4), None),
        ]:
            self.check(BOOK, log, (rule, conclusion, ahead, number), True)
            self.check(BOOK, log, (rule, conclusion, ahead[::-1], number), False)

    def test_one_place_twice(self):
        log = [("nowhere", ("is", X, A), (), None), ("nowhere", ("tied", X, "r", X), (), None)]
        self.check(BOOK, log, ("both", ("is", X, ("both", A, A)), (0, 0), None), True)
        self.check(BOOK, log, ("both", ("is", X, BOTH), (0, 0), None), False)
        self.check(BOOK, log, ("chain", ("tied", X, "r", X), (1, 1), 8), True)
        self.check(BOOK, log, ("chain", ("tied", X, "t", X), (1, 1), 7), False)
        self.check(BOOK, log, ("left", ("is", X, A), (0, 0), None), False)
        self.check(BOOK, log, ("there", ("is", X, ANY), (1, 1), None), False)

    def test_a_thing_is_not_itself_by_self_or_any(self):
        for rule in ("self", "any"):
            self.check(BOOK, [], (rule, ("is", X, ANY), (), None), False)
            self.check(BOOK, [], (rule, ("is", X, A), (), None), False)
            self.check(BOOK, [], (rule, ("is", X, X), (), None), False)
            self.check(BOOK, [], (rule, ("tied", A, "r", A), (), None), False)

    def test_there_tells_of_things_alone(self):
        log = [("nowhere", ("tied", A, "r", B), (), None), ("nowhere", ("is", A, B), (), None)]
        for place in (0, 1):
            for subject in (A, B, X):
                self.check(BOOK, log, ("there", ("is", subject, ANY), (place,), None), False)
        log = [("nowhere", ("tied", X, "r", Y), (), None)]
        self.check(BOOK, log, ("there", ("is", Z, ANY), (0,), None), False)
        self.check(BOOK, log, ("there", ("is", X, A), (0,), None), False)
        self.check(BOOK, log, ("there", ("tied", X, "r", ANY), (0,), None), False)

    def test_fall_needs_a_thing_that_is_nothing(self):
        for head, told in ((("is", X, NONE), True), (("is", A, NONE), False), (("is", X, A), False), (("tied", X, "r", NONE), False)):
            log = [("nowhere", head, (), None)]
            for conclusion in (("is", B, C), ("is", Y, C), ("tied", Y, "r", B), ("is", X, NONE)):
                self.check(BOOK, log, ("fall", conclusion, (0,), None), told)

    def test_all_keeps_the_subject_and_the_sort(self):
        log = [("nowhere", ("is", X, NONE), (), None)]
        self.check(BOOK, log, ("all", ("is", X, C), (0,), None), True)
        self.check(BOOK, log, ("all", ("is", Y, C), (0,), None), False)
        self.check(BOOK, log, ("all", ("tied", X, "r", A), (0,), None), False)
        self.check(BOOK, log, ("all", ("tied", X, "r", Y), (0,), None), False)

    def test_numbers_where_none_is_told_and_none_where_one_is(self):
        for rule, heads, number, conclusion in CASES:
            log, ahead = laid(heads)
            if number is None:
                for other in (0, -1, 1, 9):
                    self.check(BOOK, log, (rule, conclusion, ahead, other), False)
            else:
                self.check(BOOK, log, (rule, conclusion, ahead, None), False)

    def test_granted_sayings(self):
        book = [(-1, ("link", "X", "r", "Y")), (0, ("link", "Y", "s", "Z"))] + BOOK
        x, y, z = ("thing", "X"), ("thing", "Y"), ("thing", "Z")
        self.check(book, [], ("link", ("tied", x, "r", y), (), -1), True)
        self.check(book, [], ("link", ("tied", y, "s", z), (), 0), True)
        self.check(book, [], ("link", ("tied", y, "s", z), (), -1), False)
        self.check(book, [], ("link", ("tied", x, "r", y), (), 0), False)
        self.check(book, [], ("link", ("tied", x, "r", y), (), None), False)
        self.check(BOOK, [], ("link", ("tied", x, "r", y), (), -1), False)
        log = [("link", ("tied", x, "r", y), (), -1), ("link", ("tied", y, "s", z), (), 0)]
        self.check(book, log, ("chain", ("tied", x, "t", z), (0, 1), 7), True)
        self.check(book, log, ("sub", ("tied", x, "s", y), (0,), 5), True)
        self.check(book, log, ("there", ("is", z, ANY), (1,), None), True)
        self.check(book, log, ("there", ("is", ("thing", "x"), ANY), (1,), None), False)
        self.assertIs(sound(book, log + [("chain", ("tied", x, "t", z), (0, 1), 7)]), True)

    def test_great_depths(self):
        for many in (12, 13, 14, 40):
            for thought, text in towers(many):
                book = [(1, ("every", thought, A)), (2, ("thing", "x", thought)), (3, ("no", thought, thought))]
                log = [("mark", ("is", X, thought), (), 2)]
                self.check(book, [], log[0], True)
                self.check(book, log, ("under", ("is", X, A), (0,), 1), True)
                self.check(book, log, ("both", ("is", X, ("both", thought, thought)), (0, 0), None), True)
                self.check(book, [], ("self", ("is", thought, thought), (), None), True)
                self.check(book, [], ("self", ("is", thought, ("both", thought, thought)), (), None), False)

    def test_what_is_handed_in_stays(self):
        for rule, heads, number, conclusion in CASES:
            log, ahead = laid(heads)
            step = (rule, conclusion, ahead, number)
            kept = copy.deepcopy((BOOK, log, step))
            follows(BOOK, log, step)
            sound(BOOK, log + [step])
            self.assertEqual((BOOK, log, step), kept)

    def test_a_book_or_a_log_changed_behind_the_call(self):
        book, log = [(1, ("every", A, B))], [("self", ("is", A, A), (), None)]
        step = ("under", ("is", A, B), (0,), 1)
        self.assertIs(follows(book, log, step), True)
        book[0] = (1, ("every", A, C))
        self.assertIs(follows(book, log, step), False)
        book.append((2, ("every", A, B)))
        self.assertIs(follows(book, log, ("under", ("is", A, B), (0,), 2)), True)
        log.clear()
        self.assertIs(follows(book, log, ("under", ("is", A, B), (0,), 2)), False)


class Sound(unittest.TestCase):
    BOOK = [(1, ("thing", "x", BOTH)), (2, ("every", A, SOME)), (3, ("tie", "r", "s")), (4, ("no", SOME, B))]
    LOG = [
        ("mark", ("is", X, BOTH), (), 1),
        ("left", ("is", X, A), (0,), None),
        ("right", ("is", X, B), (0,), None),
        ("under", ("is", X, SOME), (1,), 2),
        ("out", ("tied", X, "r", A), (3,), None),
        ("sub", ("tied", X, "s", A), (4,), 3),
        ("both", ("is", X, ("both", SOME, B)), (3, 2), None),
        ("under", ("is", X, NONE), (6,), 4),
        ("all", ("is", X, C), (7,), None),
        ("fall", ("tied", B, "t", Y), (7,), None),
    ]

    def check(self, book, log, told):
        self.assertIs(sound(book, log), told, log)
        self.assertIs(right_log(book, log), told, log)

    def test_an_empty_log(self):
        self.check([], [], True)
        self.check(self.BOOK, [], True)

    def test_a_sound_log_and_its_beginnings(self):
        for many in range(len(self.LOG) + 1):
            self.check(self.BOOK, self.LOG[:many], True)

    def test_a_step_left_out(self):
        for place in range(len(self.LOG) - 2):
            self.check(self.BOOK, self.LOG[:place] + self.LOG[place + 1:], False)

    def test_a_saying_left_out(self):
        for place in range(len(self.BOOK)):
            self.check(self.BOOK[:place] + self.BOOK[place + 1:], self.LOG, False)

    def test_each_step_bent(self):
        for place, step in enumerate(self.LOG):
            wrong = 0
            for bent in tampered(step):
                log = self.LOG[:place] + [bent] + self.LOG[place + 1:]
                told = right_log(self.BOOK, log)
                self.assertIs(sound(self.BOOK, log), told, log)
                wrong += not told
            self.assertGreater(wrong, 40)

    def test_a_step_that_leans_on_itself_or_on_one_behind_it(self):
        self.check([], [("left", ("is", A, A), (0,), None)], False)
        self.check([], [("all", ("is", A, NONE), (0,), None)], False)
        self.check([], [("fall", ("is", X, NONE), (0,), None)], False)
        self.check([], [("fall", ("is", X, NONE), (1,), None), ("all", ("is", X, NONE), (0,), None)], False)
        self.check([], [("left", ("is", BOTH, A), (1,), None), ("self", ("is", BOTH, BOTH), (), None)], False)
        self.check([], [("self", ("is", BOTH, BOTH), (), None), ("left", ("is", BOTH, A), (0,), None)], True)
        self.check([], [("self", ("is", BOTH, BOTH), (), None), ("left", ("is", BOTH, A), (-1,), None)], False)

    def test_one_conclusion_twice(self):
        step = ("self", ("is", A, A), (), None)
        self.check([], [step, step], True)

    def test_two_thousand_steps(self):
        log = [("self", ("is", BOTH, BOTH), (), None)]
        book = [(1, ("same", BOTH, C))]
        for place in range(1, 2100):
            log.append(("under", ("is", BOTH, C if place % 2 else BOTH), (place - 1,), 1))
        self.assertIs(sound(book, log[:2000]), True)
        self.assertIs(sound(book, log), True)
        self.assertIs(sound(book, log + [("under", log[-1][1], (2099,), 1)]), False)
        self.assertIs(sound([(2, ("same", BOTH, C))], log), False)

    def test_what_is_handed_in_stays(self):
        kept = copy.deepcopy((self.BOOK, self.LOG))
        sound(self.BOOK, self.LOG)
        self.assertEqual((self.BOOK, self.LOG), kept)


if __name__ == "__main__":
    unittest.main()
