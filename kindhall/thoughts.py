"""Names, thoughts, and the names that stand in sayings."""

LETTERS = "abcdefghijklmnopqrstuvwxyz"
LONGEST_NAME = 12
FIXED_WORDS = (
    "every", "same", "no", "tie", "thing", "is", "as", "runs", "on", "and", "some", "anything", "nothing",
)

# The words that stand for a thought without being the name of a kind.
WORDS = {"anything": ("any",), "nothing": ("none",)}

# The sorts of sayings about two thoughts, each with the word that it is written with between them.
JOINTS = {"every": "is", "same": "as", "no": "is"}


def is_name(text):
    """Whether the text is a name."""
    if not 1 <= len(text) <= LONGEST_NAME:
        return False
    return text not in FIXED_WORDS and all([sign in LETTERS for sign in text])


def thought_of(word):
    """The thought that a kind's name, anything or nothing stands for."""
    if word in WORDS:
        return WORDS[word]
    return ("kind", word)


def within(thought):
    """The thoughts right within a thought."""
    if thought[0] == "both":
        return [thought[1], thought[2]]
    if thought[0] == "some":
        return [thought[2]]
    return []


def depth(thought):
    """How many thoughts deep a thought is nested, 0 where none is within it."""
    inner = within(thought)
    if not inner:
        return 0
    return 1 + max([depth(part) for part in inner])


def parts(thought):
    """The thought and all thoughts within it, each once and behind its own parts."""
    told = []
    add_parts(thought, told, {})
    return told


def add_parts(thought, told, places):
    """Add the parts that are not told yet to the told ones; give the place of the thought among them."""
    inner = []
    for part in within(thought):
        inner.append(add_parts(part, told, places))
    # A thought may be nested deeper than a key may be: in its key the places of the parts stand for them.
    key = thought[:len(thought) - len(inner)] + tuple(inner)
    if key not in places:
        places[key] = len(told)
        told.append(thought)
    return places[key]


def thoughts_in(saying):
    """The thoughts right within a saying."""
    if saying[0] in JOINTS:
        return [saying[1], saying[2]]
    if saying[0] == "thing":
        return [saying[2]]
    return []


def ties_in(saying):
    """The ties that a saying names outside of its thoughts."""
    if saying[0] in ("tie", "chain", "runs"):
        return list(saying[1:])
    if saying[0] == "link":
        return [saying[2]]
    return []


def things_in(saying):
    """The things that a saying names."""
    if saying[0] == "thing":
        return [saying[1]]
    if saying[0] == "link":
        return [saying[1], saying[3]]
    return []


def named(sayings):
    """The names of the kinds, of the ties and of the things in a list of sayings, each sorted."""
    kinds = []
    ties = []
    things = []
    for saying in sayings:
        ties.extend(ties_in(saying))
        things.extend(things_in(saying))
        for thought in thoughts_in(saying):
            told = parts(thought)
            kinds.extend([part[1] for part in told if part[0] == "kind"])
            ties.extend([part[1] for part in told if part[0] == "some"])
    return sorted(set(kinds)), sorted(set(ties)), sorted(set(things))
