"""Whether steps follow from a book and a log.

A function whose name begins with by_ tells whether a step goes by that rule: of heads, the conclusions at the places
ahead (as many as the rule takes), of the step's own conclusion, and of the plain rows of the saying with its number
(none where the book has no such saying).
"""

from kindhall.rows import plain, stated


def follows(book, log, step):
    """Whether the step follows from the book and the log ahead of it."""
    return goes(rows_by_number(book), log, len(log), step)


def sound(book, log):
    """Whether each step of the log follows from the book and the steps ahead of it."""
    rows_by = rows_by_number(book)
    return all([goes(rows_by, log, at, step) for at, step in enumerate(log)])


def rows_by_number(book):
    """The plain rows of each saying of the book, by its number."""
    return {number: plain(saying) for number, saying in book}


def goes(rows_by, log, many, step):
    """Whether the step follows from the rows and the first so many steps of the log."""
    rule, conclusion, ahead, number = step
    if rule not in RULES or len(ahead) != TAKEN[rule]:
        return False
    if number is not None and rule not in NUMBERED:
        return False
    if not all([0 <= at < many for at in ahead]):
        return False
    heads = [log[at][1] for at in ahead]
    fits = RULES[rule]
    return fits(heads, conclusion, rows_by.get(number, []))


def is_thing(subject):
    """Whether a subject is a thing, not a thought."""
    return subject[0] == "thing"


def subjects_in(conclusion):
    """The subjects of a conclusion."""
    if conclusion[0] == "tied":
        return [conclusion[1], conclusion[3]]
    return [conclusion[1]]


def by_self(heads, conclusion, rows):
    """("is", T, T), T a thought."""
    return conclusion[0] == "is" and not is_thing(conclusion[1]) and conclusion[1] == conclusion[2]


def by_any(heads, conclusion, rows):
    """("is", T, ("any",)), T a thought."""
    return conclusion[0] == "is" and not is_thing(conclusion[1]) and conclusion[2] == ("any",)


def by_there(heads, conclusion, rows):
    """("is", S, ("any",)), S a thing that is a subject of the head."""
    told = [("is", subject, ("any",)) for subject in subjects_in(heads[0]) if is_thing(subject)]
    return conclusion in told


def by_mark(heads, conclusion, rows):
    """What a mark row tells of its thing."""
    return conclusion in [stated(row) for row in rows if row[0] == "mark"]


def by_link(heads, conclusion, rows):
    """What a link row tells of its things."""
    return conclusion in [stated(row) for row in rows if row[0] == "link"]


def by_under(heads, conclusion, rows):
    """What is T is U, of an under row of T and U."""
    head = heads[0]
    if head[0] != "is":
        return False
    return conclusion in [("is", head[1], row[2]) for row in rows if row[0] == "under" and row[1] == head[2]]


def by_left(heads, conclusion, rows):
    """What is both is the first one."""
    head = heads[0]
    return head[0] == "is" and head[2][0] == "both" and conclusion == ("is", head[1], head[2][1])


def by_right(heads, conclusion, rows):
    """What is both is the second one."""
    head = heads[0]
    return head[0] == "is" and head[2][0] == "both" and conclusion == ("is", head[1], head[2][2])


def by_both(heads, conclusion, rows):
    """What is one and is the other is both."""
    one, other = heads
    if one[0] != "is" or other[0] != "is" or one[1] != other[1]:
        return False
    return conclusion == ("is", one[1], ("both", one[2], other[2]))


def by_out(heads, conclusion, rows):
    """What is tied to some T by what it is, is tied so."""
    head = heads[0]
    if head[0] != "is" or head[2][0] != "some":
        return False
    return conclusion == ("tied", head[1], head[2][1], head[2][2])


def by_in(heads, conclusion, rows):
    """What is tied to what is T is tied to some T."""
    tied, inner = heads
    if tied[0] != "tied" or inner[0] != "is" or tied[3] != inner[1]:
        return False
    return conclusion == ("is", tied[1], ("some", tied[2], inner[2]))


def by_sub(heads, conclusion, rows):
    """What is tied by r is tied by s, of a sub row of r and s."""
    head = heads[0]
    if head[0] != "tied":
        return False
    return conclusion in [("tied", head[1], row[2], head[3]) for row in rows if row[:2] == ("sub", head[2])]


def by_chain(heads, conclusion, rows):
    """What is tied by r to what is tied by s is tied by t, of a chain row of r, s and t."""
    one, other = heads
    if one[0] != "tied" or other[0] != "tied" or one[3] != other[1]:
        return False
    told = [("tied", one[1], row[3], other[3]) for row in rows if row[:3] == ("chain", one[2], other[2])]
    return conclusion in told


def by_void(heads, conclusion, rows):
    """What is tied to nothing is nothing."""
    tied, inner = heads
    if tied[0] != "tied" or inner != ("is", tied[3], ("none",)):
        return False
    return conclusion == ("is", tied[1], ("none",))


def by_all(heads, conclusion, rows):
    """What is nothing is anything that one likes."""
    head = heads[0]
    return head == ("is", conclusion[1], ("none",)) and conclusion[0] == "is"


def by_fall(heads, conclusion, rows):
    """Of a thing that is nothing, all follows."""
    head = heads[0]
    return head[0] == "is" and is_thing(head[1]) and head[2] == ("none",)


RULES = {
    "self": by_self, "any": by_any, "there": by_there, "mark": by_mark, "link": by_link, "under": by_under,
    "left": by_left, "right": by_right, "both": by_both, "out": by_out, "in": by_in, "sub": by_sub,
    "chain": by_chain, "void": by_void, "all": by_all, "fall": by_fall,
}

# How many places ahead each rule takes.
TAKEN = {
    "self": 0, "any": 0, "there": 1, "mark": 0, "link": 0, "under": 1, "left": 1, "right": 1, "both": 2,
    "out": 1, "in": 2, "sub": 1, "chain": 2, "void": 2, "all": 1, "fall": 1,
}

# The rules that go by a row of the book.
NUMBERED = ("mark", "link", "under", "sub", "chain")
