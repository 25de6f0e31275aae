"""How thoughts [6] and sayings [7] are written."""

import unittest

from kindhall.showing import show_saying, show_thought
from tests.samples import SAYINGS, THOUGHTS, towers


class Showing(unittest.TestCase):
    def test_thoughts(self):
        for thought, text in THOUGHTS:
            self.assertEqual(show_thought(thought), text)

    def test_sayings(self):
        for saying, text in SAYINGS:
            self.assertEqual(show_saying(saying), text)

    def test_all_sorts_are_among_them(self):
        self.assertEqual({thought[0] for thought, text in THOUGHTS}, {"kind", "any", "none", "both", "some"})
        self.assertEqual(
            {saying[0] for saying, text in SAYINGS},
            {"every", "same", "no", "tie", "chain", "runs", "thing", "link"},
        )

    def test_deep_ones(self):
        for many in (12, 13, 40):
            for thought, text in towers(many):
                self.assertEqual(show_thought(thought), text)
                self.assertEqual(show_saying(("every", thought, thought)), f"every {text} is {text}")
                self.assertEqual(show_saying(("same", thought, thought)), f"same {text} as {text}")
                self.assertEqual(show_saying(("no", thought, thought)), f"no {text} is {text}")
                self.assertEqual(show_saying(("thing", "x", thought)), f"thing x is {text}")


if __name__ == "__main__":
    unittest.main()
