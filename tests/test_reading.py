"""Reading thoughts and sayings, and its refusals [8]."""

import itertools
import re
import unittest

from kindhall.errors import NoText, TooDeep
from kindhall.reading import read_saying, read_thought
from kindhall.showing import show_saying, show_thought
from tests.samples import A, FIXED_WORDS, SAYINGS, THOUGHTS, leaning, tied, towers

READERS = [read_thought, read_saying]
NAME = rf"(?!(?:{'|'.join(FIXED_WORDS)})(?![a-z]))[a-z]{{1,12}}"
PLAIN = rf"(?:anything|nothing|~|{NAME})"
BRACKET = rf"\((?:{NAME} some {PLAIN}|{PLAIN} and {PLAIN})\)"
SAYING = "|".join([
    rf"every {PLAIN} is {PLAIN}", rf"same {PLAIN} as {PLAIN}", rf"no {PLAIN} is {PLAIN}",
    rf"tie {NAME} is {NAME}", rf"tie {NAME} {NAME} is {NAME}", rf"tie {NAME} runs on",
    rf"thing {NAME} is {PLAIN}", rf"thing {NAME} {NAME} {NAME}",
])


def folded(text):
    """The text with a ~ for each bracket that writes a thought, however deep."""
    while True:
        shorter = re.sub(BRACKET, "~", text)
        if shorter == text:
            return text
        text = shorter


def writes(text, reader):
    """Whether the text, which has no ~, writes what the reader reads: found without the program's help."""
    pattern = PLAIN if reader == read_thought else SAYING
    return re.fullmatch(pattern, folded(text)) is not None


def most_open(text):
    """The greatest number of open brackets in the text."""
    return max(text[:end].count("(") - text[:end].count(")") for end in range(len(text) + 1))


def sign_edits(text):
    """The text with a sign left out, put in or changed, and with two swapped."""
    for at in range(len(text) + 1):
        yield text[:at] + text[at + 1:]
        for sign in " ()aZ7,\t\n":
            yield text[:at] + sign + text[at:]
            yield text[:at] + sign + text[at + 1:]
        yield text[:at] + text[at + 1:at + 2] + text[at:at + 1] + text[at + 2:]


def word_edits(text):
    """The text with a word left out, doubled or changed, and with two swapped."""
    words = re.findall(r"[a-z]+|.", text)
    for at in range(len(words)):
        yield "".join(words[:at] + words[at + 1:])
        for word in FIXED_WORDS + ["b", "q" * 12, "q" * 13]:
            yield "".join(words[:at] + [word] + words[at + 1:])
            yield "".join(words[:at] + [word, " "] + words[at:])
            yield "".join(words[:at + 1] + [" ", word] + words[at + 1:])
        for other in range(at):
            swapped = list(words)
            swapped[at], swapped[other] = words[other], words[at]
            yield "".join(swapped)


class Reading(unittest.TestCase):
    def refused(self, error, text, *readers):
        for reader in readers or READERS:
            with self.subTest(text=text, reader=reader), self.assertRaises(error):
                reader(text)

    def judged(self, text):
        """The text is read, or refused, by both readers as it should be."""
        for reader, shower in ((read_thought, show_thought), (read_saying, show_saying)):
            if most_open(text) > 12:
                self.refused(TooDeep, text, reader)
            elif writes(text, reader):
                self.assertEqual(shower(reader(text)), text)
            else:
                self.refused(NoText, text, reader)

    def test_thoughts(self):
        for thought, text in THOUGHTS:
            self.assertEqual(read_thought(text), thought)

    def test_sayings(self):
        for saying, text in SAYINGS:
            self.assertEqual(read_saying(text), saying)

    def test_depth_twelve(self):
        for many in (11, 12):
            for thought, text in towers(many):
                self.assertEqual(read_thought(text), thought)
                self.assertEqual(read_saying(f"every {text} is {text}"), ("every", thought, thought))
                self.assertEqual(read_saying(f"same {text} as {text}"), ("same", thought, thought))
                self.assertEqual(read_saying(f"no {text} is {text}"), ("no", thought, thought))
                self.assertEqual(read_saying(f"thing x is {text}"), ("thing", "x", thought))

    def test_depth_thirteen_is_too_deep(self):
        for many in (13, 14, 40):
            for thought, text in towers(many):
                self.refused(TooDeep, text)
                for saying in (f"every {text} is a", f"every a is {text}", f"same {text} as a", f"same a as {text}",
                               f"no {text} is a", f"no a is {text}", f"thing x is {text}"):
                    self.refused(TooDeep, saying)

    def test_too_deep_whatever_else_stands_there(self):
        for text in ("(" * 13, "(" * 2000, "a b" + "(" * 13, " " + "(" * 13 + ")" * 13, "\t" + "(" * 13, "(" * 13 + "\n",
                     "(,Every 7" * 13, "()" * 5 + "(" * 13, ")" + "(" * 14, ")" * 20 + "(" * 33, ")(" * 9 + "(" * 13,
                     "every a is b" + "(" * 13, "(" * 12 + ")" + "(" * 2):
            self.refused(TooDeep, text)

    def test_twelve_open_ones_are_not_too_deep(self):
        for text in ("(" * 12, "(" * 12 + ")" * 12, ")" + "(" * 13, ")" * 20 + "(" * 32, ")(" * 9 + "(" * 12, "()" * 900,
                     "(" * 12 + ")" + "(", ")" * 900 + "(" * 900, "every " + "(" * 12):
            self.refused(NoText, text)

    def test_many_brackets_that_are_not_open_at_once(self):
        side = leaning(11, True)
        wide = ("both", side[0], side[0])
        text = f"({side[1]} and {side[1]})"
        self.assertEqual(read_thought(text), wide)
        self.assertEqual(read_saying(f"same {text} as {text}"), ("same", wide, wide))

    def test_no_sign_and_blanks(self):
        for text in ("", " ", "  ", "\n", "\t", "(", ")", "()", "( )"):
            self.refused(NoText, text)

    def test_blanks_in_wrong_places(self):
        for samples, reader in ((THOUGHTS, read_thought), (SAYINGS, read_saying)):
            for told, text in samples:
                self.refused(NoText, " " + text, reader)
                self.refused(NoText, text + " ", reader)
                for at, sign in enumerate(text):
                    if sign == " ":
                        self.refused(NoText, text[:at] + "  " + text[at + 1:], reader)
                        self.refused(NoText, text[:at] + "\t" + text[at + 1:], reader)
                        self.refused(NoText, text[:at] + "\n" + text[at + 1:], reader)
                    if sign in "()":
                        self.refused(NoText, text[:at] + " " + text[at:], reader)
                        self.refused(NoText, text[:at + 1] + " " + text[at + 1:], reader)

    def test_tabs_and_line_ends_around(self):
        for sign in "\t\n\r":
            for text in ("a", "(a and b)"):
                self.refused(NoText, sign + text, read_thought)
                self.refused(NoText, text + sign, read_thought)
            for text in ("every a is b", "tie r runs on", "thing x r y"):
                self.refused(NoText, sign + text, read_saying)
                self.refused(NoText, text + sign, read_saying)

    def test_words_too_many_or_too_few(self):
        for text in ("a b", "a and b", "r some a", "(a b)", "(a and)", "(and b)", "(a and b and c)", "(r some)", "(some a)",
                     "(r some some a)", "(r s some a)", "(r some a b)", "(a)", "((a and b))", "(anything)", "some a"):
            self.refused(NoText, text, read_thought)
        for text in ("every", "every ", "every a", "every a is", "every a is ", "every is b", "every a b", "every a is b c",
                     "every a is is b", "a is b", "same a is b", "every a as b", "no a as b", "no a b", "same a as",
                     "tie", "tie r", "tie r is", "tie is s", "tie r s", "tie r s t", "tie r s is", "tie r is s t",
                     "tie r s t is u", "tie runs on", "tie r runs", "tie r runs on on", "tie r runs only", "tie r runson",
                     "tie r s runs on", "tie r on runs", "thing", "thing x", "thing x is", "thing is a", "thing x r",
                     "thing x r y z", "thing x a is b", "thing x is a b", "thing x is r y", "no", "same"):
            self.refused(NoText, text, read_saying)

    def test_brackets_in_wrong_places(self):
        for text in ("(a and b", "a and b)", "((a and b)", "(a and b))", "(a and (b)", "(a) and b", "a)", "(a", ")a(",
                     "(a and b)(a and b)", "(a and b) and a", "(r) some a", "((r) some a)", "(r (some a))", "(r some a",
                     "((r some a) some a)", "((a and b) some a)", "(a (and) b)", "[a and b]", "{r some a}"):
            self.refused(NoText, text, read_thought)
        for text in ("(every a is b)", "every (a is b)", "every (a) is b", "every a is (b)", "every (a and b is c",
                     "every a and b) is c", "tie (r) is s", "tie r is (r some s)", "tie (r some a) is s", "thing (x) is a",
                     "thing x (r) y", "thing x r (a and b)", "thing x r y)", "(thing x r y", "tie r runs on)"):
            self.refused(NoText, text, read_saying)

    def test_words_that_are_no_names(self):
        for word in FIXED_WORDS + ["q" * 13, "Q", "X", "a7", "7", "a_b", "a-b", ""]:
            if word not in ("anything", "nothing"):
                self.refused(NoText, word, read_thought)
                for text in (f"({word} and a)", f"(a and {word})", f"(r some {word})"):
                    self.refused(NoText, text, read_thought)
                for text in (f"every {word} is a", f"every a is {word}", f"same {word} as a", f"same a as {word}",
                             f"no {word} is a", f"no a is {word}", f"thing x is {word}"):
                    self.refused(NoText, text, read_saying)
            self.refused(NoText, f"({word} some a)", read_thought)
            for text in (f"tie {word} is s", f"tie r is {word}", f"tie {word} s is t", f"tie r s is {word}",
                         f"tie {word} runs on", f"thing {word} is a", f"thing {word} r y", f"thing x r {word}"):
                self.refused(NoText, text, read_saying)
            if word != "is":
                self.refused(NoText, f"thing x {word} y", read_saying)
            self.refused(NoText, f"tie r {word} is t", read_saying)

    def test_names_near_the_fixed_words(self):
        for word in FIXED_WORDS:
            for near in (word + "s", word[:-1], "x" + word):
                self.assertEqual(read_thought(near), ("kind", near))
                self.assertEqual(read_thought(f"({near} some {near})"), ("some", near, ("kind", near)))
                self.assertEqual(read_saying(f"thing {near} {near} {near}"), ("link", near, near, near))
                self.assertEqual(read_saying(f"tie {near} {near} is {near}"), ("chain", near, near, near))
                self.assertEqual(read_saying(f"tie {near} runs on"), ("runs", near))
                self.assertEqual(read_saying(f"every {near} is {near}"), ("every", ("kind", near), ("kind", near)))

    def test_a_thought_is_no_saying_nor_the_other_way_about(self):
        for thought, text in THOUGHTS:
            self.refused(NoText, text, read_saying)
        for saying, text in SAYINGS:
            self.refused(NoText, text, read_thought)

    def test_texts_near_those_that_are_written(self):
        texts = [text for told, text in THOUGHTS + SAYINGS] + [tied(12)[1], leaning(12, True)[1]]
        seen = set()
        for text in texts:
            seen.update(sign_edits(text))
            if len(text) < 40:
                seen.update(word_edits(text))
        for text in sorted(seen):
            self.judged(text)

    def test_all_short_rows_of_words(self):
        for many in range(1, 6):
            for words in itertools.product(["a", "is", "tie", "thing", "every", "runs", "on"], repeat=many):
                self.judged(" ".join(words))
        for many in range(1, 6):
            for words in itertools.product(["(", ")", "a", " and ", " some ", "nothing"], repeat=many):
                self.judged("".join(words))

    def test_long_texts(self):
        thought, text = A, "a"
        for place in range(10):
            thought, text = ("both", thought, thought), f"({text} and {text})"
        self.assertGreater(len(text), 2200)
        self.assertEqual(read_thought(text), thought)
        self.assertEqual(read_saying(f"same {text} as {text}"), ("same", thought, thought))
        self.refused(NoText, text + " ")
        self.refused(NoText, "q" * 2200)


if __name__ == "__main__":
    unittest.main()
