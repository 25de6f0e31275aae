"""What holds in worlds and what books speak of, from the words of the document and by nothing of the program."""

from tests.rules import parts_of, rows_of
from tests.test_worlds import held_by


def row_kept(world, row):
    """Whether the plain row holds in the world."""
    spots = dict(world[2])
    if row[0] == "under":
        return held_by(world, row[1]) <= held_by(world, row[2])
    if row[0] == "mark":
        return row[1] in spots and spots[row[1]] in held_by(world, row[2])
    if row[0] == "link":
        return row[1] in spots and row[3] in spots and (spots[row[1]], row[2], spots[row[3]]) in world[1]
    ties = set(world[1])
    if row[0] == "sub":
        return all((p, row[2], q) in ties for p, r, q in ties if r == row[1])
    onward = {}
    for p, r, q in ties:
        if r == row[2]:
            onward.setdefault(p, []).append(q)
    return all((p, row[3], z) in ties for p, r, q in ties if r == row[1] for z in onward.get(q, []))


def kept(world, saying):
    """Whether the world keeps the saying."""
    return all(row_kept(world, row) for row in rows_of(saying))


def all_kept(world, book):
    """Whether the world keeps the book."""
    return all(kept(world, saying) for number, saying in book)


def well_told(world):
    """Whether the world is made as worlds are: its lists sorted, each thing in them once, its points there."""
    marks, ties, spots = world
    points = range(len(marks))
    return (
        isinstance(world, tuple)
        and all(isinstance(part, list) for part in (marks, ties, spots, *marks))
        and all(kinds == sorted(set(kinds)) for kinds in marks)
        and ties == sorted(set(ties)) and all(p in points and q in points for p, r, q in ties)
        and spots == sorted(set(spots)) and all(p in points for a, p in spots)
        and len({a for a, p in spots}) == len(spots)
    )


def things_named(book):
    """The set of the things that the book names."""
    found = set()
    for number, saying in book:
        if saying[0] == "thing":
            found.add(saying[1])
        if saying[0] == "link":
            found |= {saying[1], saying[3]}
    return found


def parts_spoken_of(sayings, thoughts):
    """The set of the parts of the thoughts, and of those in the plain rows of the sayings."""
    found = set()
    rows = [row for saying in sayings for row in rows_of(saying)]
    for thought in thoughts + [part for row in rows for part in row[1:] if isinstance(part, tuple)]:
        found |= parts_of(thought)
    return found


def kinds_named(book):
    """The set of the kinds that stand in the book's sayings."""
    return {part[1] for part in parts_spoken_of([saying for number, saying in book], []) if part[0] == "kind"}


def granted_of(row):
    match row:
        case ("sub", r, s):
            return [(0, ("link", "X", r, "Y"))]
        case ("chain", r, s, t):
            return [(-1, ("link", "X", r, "Y")), (0, ("link", "Y", s, "Z"))]
    return []


def due_of(row):
    match row:
        case ("under", t, u):
            return ("is", t, u)
        case ("mark", a, t):
            return ("is", ("thing", a), t)
        case ("link", a, r, b):
            return ("tied", ("thing", a), r, ("thing", b))
        case ("sub", r, s):
            return ("tied", ("thing", "X"), s, ("thing", "Y"))
        case ("chain", r, s, t):
            return ("tied", ("thing", "X"), t, ("thing", "Z"))
