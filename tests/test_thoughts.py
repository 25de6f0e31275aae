"""Names [4], thoughts with their depth and parts [5], and the names in sayings [9]."""

import copy
import string
import unittest

from kindhall.thoughts import depth, is_name, named, parts
from tests.samples import A, ANY, B, FIXED_WORDS, NONE, SAYINGS, THOUGHTS, towers

OTHER_SIGNS = [sign for sign in map(chr, range(32, 127)) if sign not in string.ascii_lowercase] + ["\t", "\n", "\r"]


class Names(unittest.TestCase):
    def test_lengths(self):
        self.assertIs(is_name(""), False)
        for many in range(1, 13):
            self.assertIs(is_name("q" * many), True, many)
        for many in (13, 14, 26, 2200):
            self.assertIs(is_name("q" * many), False, many)

    def test_each_letter(self):
        for letter in string.ascii_lowercase:
            self.assertIs(is_name(letter), True, letter)
            self.assertIs(is_name(f"b{letter}b"), True, letter)

    def test_fixed_words_are_no_names(self):
        self.assertEqual(len(FIXED_WORDS), 13)
        for word in FIXED_WORDS:
            self.assertIs(is_name(word), False, word)

    def test_words_near_the_fixed_ones_are_names(self):
        for word in FIXED_WORDS:
            for letter in string.ascii_lowercase:
                self.assertIs(is_name(word + letter), True, word + letter)
                self.assertIs(is_name(letter + word), True, letter + word)
            self.assertIs(is_name(word[:-1]), True, word[:-1])

    def test_words_of_the_program_are_names(self):
        for word in ("kind", "any", "none", "both", "link", "chain", "under", "mark"):
            self.assertIs(is_name(word), True, word)

    def test_other_signs(self):
        for sign in OTHER_SIGNS:
            for text in (sign, sign + "ab", "a" + sign + "b", "ab" + sign):
                self.assertIs(is_name(text), False, repr(text))

    def test_great_letters_make_no_fixed_word_a_name(self):
        self.assertIs(is_name("Every"), False)
        self.assertIs(is_name("X"), False)


class Depths(unittest.TestCase):
    def test_depth_nought(self):
        for thought in (A, ANY, NONE):
            self.assertEqual(depth(thought), 0)

    def test_depth_one(self):
        for thought in (("both", A, B), ("both", ANY, NONE), ("some", "r", A), ("some", "r", ANY)):
            self.assertEqual(depth(thought), 1)

    def test_the_greatest_depth_within_counts(self):
        deep = ("some", "r", ("both", A, B))
        self.assertEqual(depth(deep), 2)
        self.assertEqual(depth(("both", deep, A)), 3)
        self.assertEqual(depth(("both", A, deep)), 3)
        self.assertEqual(depth(("both", deep, deep)), 3)

    def test_great_depths(self):
        for many in (11, 12, 13, 40):
            for thought, text in towers(many):
                self.assertEqual(depth(thought), many, text)


class Parts(unittest.TestCase):
    def test_single_ones(self):
        for thought in (A, ANY, NONE):
            self.assertEqual(parts(thought), [thought])

    def test_parts_stand_ahead_of_the_thought(self):
        self.assertEqual(parts(("both", A, B)), [A, B, ("both", A, B)])
        self.assertEqual(parts(("both", B, A)), [B, A, ("both", B, A)])
        self.assertEqual(parts(("some", "r", A)), [A, ("some", "r", A)])

    def test_a_part_that_stands_twice_is_told_once(self):
        both = ("both", A, B)
        self.assertEqual(parts(("both", A, A)), [A, ("both", A, A)])
        self.assertEqual(parts(("both", both, both)), [A, B, both, ("both", both, both)])
        self.assertEqual(parts(("both", both, A)), [A, B, both, ("both", both, A)])
        self.assertEqual(parts(("both", B, both)), [B, A, both, ("both", B, both)])

    def test_alike_parts_need_not_be_one_object(self):
        left = ("some", "r", ("kind", "".join(["a", "b"])))
        right = ("some", "r", ("kind", "".join(["a", "b"])))
        self.assertEqual(parts(("both", left, right)), [("kind", "ab"), left, ("both", left, right)])

    def test_near_thoughts_are_unlike(self):
        by_r, by_s = ("some", "r", A), ("some", "s", A)
        self.assertEqual(parts(("both", by_r, by_s)), [A, by_r, by_s, ("both", by_r, by_s)])
        one, other = ("both", A, B), ("both", B, A)
        self.assertEqual(parts(("both", one, other)), [A, B, one, other, ("both", one, other)])
        tied = ("some", "a", A)
        self.assertEqual(parts(("both", tied, A)), [A, tied, ("both", tied, A)])

    def test_any_and_none_are_parts(self):
        thought = ("both", ("some", "r", NONE), ("some", "r", ANY))
        self.assertEqual(parts(thought), [NONE, thought[1], ANY, thought[2], thought])

    def test_a_longer_one(self):
        left = ("both", ("some", "r", B), A)
        right = ("some", "s", ("both", A, ("some", "r", B)))
        self.assertEqual(
            parts(("both", left, right)),
            [B, ("some", "r", B), A, left, ("both", A, ("some", "r", B)), right, ("both", left, right)],
        )

    def test_great_depths(self):
        for many in (12, 13, 40):
            for thought, text in towers(many):
                told = parts(thought)
                self.assertEqual(len(told), many + 1 + ("and" in text), text)
                self.assertEqual(told[-1], thought)

    def test_a_wide_one(self):
        thought = A
        for place in range(10):
            thought = ("both", thought, thought)
        self.assertEqual(len(parts(thought)), 11)

    def test_what_is_told_is_the_askers_own(self):
        for thought, text in THOUGHTS:
            first = parts(thought)
            second = parts(thought)
            kept = list(second)
            first.clear()
            first.append("changed")
            self.assertEqual(second, kept, text)
            self.assertEqual(parts(thought), kept, text)


class NamesInSayings(unittest.TestCase):
    def test_of_no_sayings(self):
        self.assertEqual(named([]), ([], [], []))

    def test_of_each_sort(self):
        thought = ("both", ("some", "r", ("kind", "k")), A)
        for saying, told in [
            (("every", thought, B), (["a", "b", "k"], ["r"], [])),
            (("every", B, thought), (["a", "b", "k"], ["r"], [])),
            (("same", thought, B), (["a", "b", "k"], ["r"], [])),
            (("same", B, thought), (["a", "b", "k"], ["r"], [])),
            (("no", thought, B), (["a", "b", "k"], ["r"], [])),
            (("no", B, thought), (["a", "b", "k"], ["r"], [])),
            (("every", ANY, NONE), ([], [], [])),
            (("tie", "s", "r"), ([], ["r", "s"], [])),
            (("chain", "t", "s", "r"), ([], ["r", "s", "t"], [])),
            (("runs", "r"), ([], ["r"], [])),
            (("thing", "x", thought), (["a", "k"], ["r"], ["x"])),
            (("thing", "x", ANY), ([], [], ["x"])),
            (("link", "y", "r", "x"), ([], ["r"], ["x", "y"])),
        ]:
            with self.subTest(saying=saying):
                self.assertEqual(named([saying]), told)

    def test_sorted_and_each_once(self):
        told = named([
            ("thing", "z", ("kind", "q")),
            ("link", "z", "t", "y"),
            ("every", ("kind", "q"), ("some", "s", ("kind", "p"))),
            ("tie", "t", "s"),
            ("same", ("kind", "pa"), ("kind", "p")),
            ("link", "x", "s", "x"),
            ("runs", "ta"),
            ("thing", "z", ("kind", "o")),
        ])
        self.assertEqual(told, (["o", "p", "pa", "q"], ["s", "t", "ta"], ["x", "y", "z"]))

    def test_one_name_of_three_sorts(self):
        self.assertEqual(named([("thing", "a", ("some", "a", A))]), (["a"], ["a"], ["a"]))
        self.assertEqual(named([("link", "a", "a", "a")]), ([], ["a"], ["a"]))
        self.assertEqual(named([("every", A, A)]), (["a"], [], []))

    def test_what_is_told_is_a_tuple_of_lists(self):
        for sayings in ([], [saying for saying, text in SAYINGS]):
            told = named(sayings)
            self.assertIs(type(told), tuple)
            self.assertEqual([type(names) for names in told], [list, list, list])

    def test_the_list_handed_in_stays(self):
        sayings = [saying for saying, text in SAYINGS]
        kept = copy.deepcopy(sayings)
        named(sayings)
        self.assertEqual(sayings, kept)

    def test_a_list_changed_behind_the_call_changes_nothing_told(self):
        sayings = [("thing", "x", A)]
        told = named(sayings)
        sayings.append(("link", "y", "r", "z"))
        self.assertEqual(told, (["a"], [], ["x"]))
        self.assertEqual(named(sayings), (["a"], ["r"], ["x", "y", "z"]))

    def test_what_is_told_is_the_askers_own(self):
        for sayings in ([], [("thing", "x", ("some", "r", A))]):
            first = named(sayings)
            second = named(sayings)
            kept = copy.deepcopy(second)
            for names in first:
                names.append("changed")
            self.assertEqual(second, kept)
            self.assertEqual(named(sayings), kept)
            self.assertEqual([len(names) for names in first], [len(names) + 1 for names in kept])

    def test_many_and_deep_ones(self):
        deep = [("every", thought, thought) for many in (12, 13, 40) for thought, text in towers(many)]
        self.assertEqual(named(deep * 40), (["a", "b"], ["r"], []))


if __name__ == "__main__":
    unittest.main()
