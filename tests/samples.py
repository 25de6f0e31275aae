"""Thoughts and sayings with the texts that write them, written out by hand, for the tests."""

A = ("kind", "a")
B = ("kind", "b")
ANY = ("any",)
NONE = ("none",)

THOUGHTS = [
    (A, "a"),
    (("kind", "abcdefghijkl"), "abcdefghijkl"),
    (ANY, "anything"),
    (NONE, "nothing"),
    (("both", A, B), "(a and b)"),
    (("both", ANY, NONE), "(anything and nothing)"),
    (("some", "r", A), "(r some a)"),
    (("some", "abcdefghijkl", ANY), "(abcdefghijkl some anything)"),
    (("some", "a", A), "(a some a)"),
    (("both", ("both", A, B), A), "((a and b) and a)"),
    (("both", A, ("both", B, A)), "(a and (b and a))"),
    (("some", "r", ("some", "s", NONE)), "(r some (s some nothing))"),
    (("both", ("some", "r", A), ("some", "s", ("both", A, B))), "((r some a) and (s some (a and b)))"),
    (("some", "r", ("both", ("some", "r", A), A)), "(r some ((r some a) and a))"),
]

SAYINGS = [
    (("every", A, B), "every a is b"),
    (("every", ("both", A, B), ("some", "r", ANY)), "every (a and b) is (r some anything)"),
    (("same", A, B), "same a as b"),
    (("same", ("some", "r", A), NONE), "same (r some a) as nothing"),
    (("no", A, B), "no a is b"),
    (("no", ANY, ("both", A, A)), "no anything is (a and a)"),
    (("tie", "r", "s"), "tie r is s"),
    (("tie", "r", "r"), "tie r is r"),
    (("chain", "r", "s", "t"), "tie r s is t"),
    (("chain", "r", "r", "r"), "tie r r is r"),
    (("runs", "r"), "tie r runs on"),
    (("thing", "x", A), "thing x is a"),
    (("thing", "x", ANY), "thing x is anything"),
    (("thing", "x", ("both", A, ("some", "r", B))), "thing x is (a and (r some b))"),
    (("link", "x", "r", "y"), "thing x r y"),
    (("link", "x", "r", "x"), "thing x r x"),
    # One name may be a kind's, a tie's and a thing's.
    (("thing", "a", ("some", "a", A)), "thing a is (a some a)"),
    (("link", "a", "a", "a"), "thing a a a"),
    (("chain", "a", "a", "a"), "tie a a is a"),
]

FIXED_WORDS = "every same no tie thing is as runs on and some anything nothing".split()


def tied(many):
    """A thought of the depth many, as long as it is deep, and its text."""
    thought, text = A, "a"
    for _ in range(many):
        thought, text = ("some", "r", thought), f"(r some {text})"
    return thought, text


def leaning(many, left):
    """A thought of the depth many out of boths that lean to the left or to the right, and its text."""
    thought, text = A, "a"
    for _ in range(many):
        if left:
            thought, text = ("both", thought, B), f"({text} and b)"
        else:
            thought, text = ("both", B, thought), f"(b and {text})"
    return thought, text


def towers(many):
    """Thoughts of the depth many with their texts."""
    return [tied(many), leaning(many, True), leaning(many, False)]
