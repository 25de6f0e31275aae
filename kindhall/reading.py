"""Reading texts as thoughts and sayings.

The functions whose names end in _at read from a place of the text on. They give what they read and the place
right behind it, and refuse a text that goes on otherwise there.
"""

from kindhall.errors import NoText, TooDeep
from kindhall.thoughts import JOINTS, LETTERS, WORDS, is_name, thought_of

MOST_OPEN = 12


def read_thought(text):
    """The thought that the text writes."""
    refuse_deep(text)
    thought, end = thought_at(text, 0)
    refuse_rest(text, end)
    return thought


def read_saying(text):
    """The saying that the text writes."""
    refuse_deep(text)
    saying, end = saying_at(text, 0)
    refuse_rest(text, end)
    return saying


def refuse_deep(text):
    """Refuse a text with too many open brackets; so reading it goes no deeper than that either."""
    many = 0
    for sign in text:
        if sign == "(":
            many += 1
        elif sign == ")":
            many -= 1
        if many > MOST_OPEN:
            raise TooDeep(f"more than {MOST_OPEN} brackets are open")


def refuse_rest(text, end):
    """Refuse a text that goes on where it should end."""
    if end != len(text):
        raise NoText(f"the text should end at {end}")


def behind(text, at, piece):
    """The place behind the piece, which must stand at the place."""
    if not text.startswith(piece, at):
        raise NoText(f"no {piece!r} stands at {at}")
    return at + len(piece)


def word_at(text, at):
    """The letters from the place on, perhaps none."""
    end = at
    while end < len(text) and text[end] in LETTERS:
        end += 1
    return text[at:end], end


def name_at(text, at):
    """A name."""
    word, end = word_at(text, at)
    if not is_name(word):
        raise NoText(f"no name stands at {at}")
    return word, end


def thought_at(text, at):
    """A thought."""
    if text.startswith("(", at):
        return bracket_at(text, at + 1)
    word, end = word_at(text, at)
    if word not in WORDS:
        word, end = name_at(text, at)
    return thought_of(word), end


def bracket_at(text, at):
    """The thought of a bracket that was opened right ahead of the place."""
    end = word_at(text, at)[1]
    if text.startswith(" some ", end):
        tie, end = name_at(text, at)
        inner, end = thought_at(text, behind(text, end, " some "))
        thought = ("some", tie, inner)
    else:
        left, end = thought_at(text, at)
        right, end = thought_at(text, behind(text, end, " and "))
        thought = ("both", left, right)
    return thought, behind(text, end, ")")


def saying_at(text, at):
    """A saying."""
    head, end = word_at(text, at)
    end = behind(text, end, " ")
    if head in JOINTS:
        return joined_at(text, end, head)
    if head == "tie":
        return ties_at(text, end)
    if head == "thing":
        return thing_at(text, end)
    raise NoText(f"no saying stands at {at}")


def joined_at(text, at, sort):
    """The two thoughts of a saying of this sort."""
    left, end = thought_at(text, at)
    right, end = thought_at(text, behind(text, end, f" {JOINTS[sort]} "))
    return (sort, left, right), end


def ties_at(text, at):
    """A saying about ties, behind its first word."""
    first, end = name_at(text, at)
    if text.startswith(" runs ", end):
        return ("runs", first), behind(text, end, " runs on")
    if text.startswith(" is ", end):
        second, end = name_at(text, behind(text, end, " is "))
        return ("tie", first, second), end
    second, end = name_at(text, behind(text, end, " "))
    third, end = name_at(text, behind(text, end, " is "))
    return ("chain", first, second, third), end


def thing_at(text, at):
    """A saying about a thing, behind its first word."""
    thing, end = name_at(text, at)
    if text.startswith(" is ", end):
        thought, end = thought_at(text, behind(text, end, " is "))
        return ("thing", thing, thought), end
    tie, end = name_at(text, behind(text, end, " "))
    other, end = name_at(text, behind(text, end, " "))
    return ("link", thing, tie, other), end
