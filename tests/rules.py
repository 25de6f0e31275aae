"""The sixteen rules [16] and the closing [17] once more, from the words of the document, for the tests.

Nothing of the program is used here: the rules are matched as they are written down, and the closing is found by
trying all that is told with all that is told until nothing new comes.
"""

RULES = "self any there mark link under left right both out in sub chain void all fall".split()
ANY = ("any",)
NONE = ("none",)


def rows_of(saying):
    match saying:
        case ("every", t, u):
            return [("under", t, u)]
        case ("same", t, u):
            return [("under", t, u), ("under", u, t)]
        case ("no", t, u):
            return [("under", ("both", t, u), NONE)]
        case ("tie", r, s):
            return [("sub", r, s)]
        case ("chain", r, s, t):
            return [("chain", r, s, t)]
        case ("runs", r):
            return [("chain", r, r, r)]
        case ("thing", a, t):
            return [("mark", a, t)]
        case ("link", a, r, b):
            return [("link", a, r, b)]


def subjects_of(conclusion):
    return {conclusion[1], conclusion[3]} if conclusion[0] == "tied" else {conclusion[1]}


def given(rule, heads, row, conclusion):
    """Whether the rule leads from the heads, by the row (None where there is no number), to the conclusion."""
    match rule, heads, row, conclusion:
        case "self", (), None, ("is", s, t):
            return s[0] != "thing" and s == t
        case "any", (), None, ("is", s, t):
            return s[0] != "thing" and t == ANY
        case "there", (head,), None, ("is", ("thing", a), t):
            return t == ANY and ("thing", a) in subjects_of(head)
        case "mark", (), ("mark", a, t), _:
            return conclusion == ("is", ("thing", a), t)
        case "link", (), ("link", a, r, b), _:
            return conclusion == ("tied", ("thing", a), r, ("thing", b))
        case "under", (("is", s, t),), ("under", t_too, u), _:
            return t == t_too and conclusion == ("is", s, u)
        case "left", (("is", s, ("both", t, u)),), None, _:
            return conclusion == ("is", s, t)
        case "right", (("is", s, ("both", t, u)),), None, _:
            return conclusion == ("is", s, u)
        case "both", (("is", s, t), ("is", s_too, u)), None, _:
            return s == s_too and conclusion == ("is", s, ("both", t, u))
        case "out", (("is", s, ("some", r, t)),), None, _:
            return conclusion == ("tied", s, r, t)
        case "in", (("tied", s, r, x), ("is", x_too, t)), None, _:
            return x == x_too and conclusion == ("is", s, ("some", r, t))
        case "sub", (("tied", s, r, x),), ("sub", r_too, wide), _:
            return r == r_too and conclusion == ("tied", s, wide, x)
        case "chain", (("tied", s, r, x), ("tied", x_too, second, y)), ("chain", r_too, second_too, t), _:
            return (x, r, second) == (x_too, r_too, second_too) and conclusion == ("tied", s, t, y)
        case "void", (("tied", s, r, x), ("is", x_too, t)), None, _:
            return x == x_too and t == NONE and conclusion == ("is", s, NONE)
        case "all", (("is", s, t),), None, ("is", s_too, _):
            return s == s_too and t == NONE
        case "fall", (("is", ("thing", a), t),), None, _:
            return t == NONE
    return False


def rows_numbered(book, number):
    """The rows that a step with the number may go by; None stands for no row."""
    if number is None:
        return [None]
    return [row for found, saying in book if found == number for row in rows_of(saying)]


def right(book, log, step):
    """Whether the step follows from the book and the log."""
    rule, conclusion, ahead, number = step
    if any(place < 0 or place >= len(log) for place in ahead):
        return False
    heads = tuple(log[place][1] for place in ahead)
    return any(given(rule, heads, row, conclusion) for row in rows_numbered(book, number))


def right_log(book, log):
    """Whether the log is sound for the book."""
    return all(right(book, log[:place], step) for place, step in enumerate(log))


def parts_of(thought):
    """The set of a thought's parts."""
    found = {thought}
    for part in thought[1:]:
        if isinstance(part, tuple):
            found |= parts_of(part)
    return found


def closing_thoughts(book, asked, log):
    """The set of the closing's thoughts."""
    found = {ANY, NONE}
    rows = [row for number, saying in book for row in rows_of(saying)]
    subjects = [part for step in log for part in step[1][1:]] + [part for row in rows for part in row[1:]] + asked
    for thought in subjects:
        if isinstance(thought, tuple) and thought[0] != "thing":
            found |= parts_of(thought)
    return found


def next_told(rows, thoughts, told):
    """All conclusions that are due of those told."""
    due = set()
    for row in rows:
        if row[0] == "mark":
            due.add(("is", ("thing", row[1]), row[2]))
        if row[0] == "link":
            due.add(("tied", ("thing", row[1]), row[2], ("thing", row[3])))
    by_subject = {}
    for fact in told:
        by_subject.setdefault(fact[1], []).append(fact)
        for subject in subjects_of(fact):
            due.add(("is", subject, ANY))
            if subject[0] != "thing":
                due.add(("is", subject, subject))
    for fact in told:
        if fact[0] == "is":
            s, t = fact[1:]
            due |= {("is", s, row[2]) for row in rows if row[:2] == ("under", t)}
            if t[0] == "both":
                due |= {("is", s, t[1]), ("is", s, t[2])}
            if t[0] == "some":
                due.add(("tied", s, t[1], t[2]))
            joined = {("both", t, other[2]) for other in by_subject[s] if other[0] == "is"}
            due |= {("is", s, both) for both in joined & thoughts}
        else:
            s, r, x = fact[1:]
            due |= {("tied", s, row[2], x) for row in rows if row[:2] == ("sub", r)}
            for other in by_subject.get(x, []):
                if other[0] == "tied":
                    due |= {("tied", s, row[3], other[3]) for row in rows if row[:3] == ("chain", r, other[2])}
                else:
                    if ("some", r, other[2]) in thoughts:
                        due.add(("is", s, ("some", r, other[2])))
                    if other[2] == NONE:
                        due.add(("is", s, NONE))
    return due


def closing_of(book, asked, log):
    """The set of the conclusions that the closing tells, those of the log among them."""
    thoughts = closing_thoughts(book, asked, log)
    rows = [row for number, saying in book for row in rows_of(saying)]
    told = {step[1] for step in log}
    for thought in asked:
        told |= {("is", thought, thought), ("is", thought, ANY)}
    while True:
        due = next_told(rows, thoughts, told) - told
        if not due:
            return told
        told |= due
