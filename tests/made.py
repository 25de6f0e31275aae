"""Thoughts, sayings, books and worlds made by chance from a fixed seed, for the tests."""

import random

KINDS = ["a", "b", "c"]
TIES = ["r", "s", "t"]
THINGS = ["x", "y", "z"]


class Maker:
    """Makes the same things again for the same seed."""

    def __init__(self, seed):
        self.chance = random.Random(seed)

    def one(self, choices):
        return self.chance.choice(choices)

    def upto(self, most):
        return self.chance.randint(0, most)

    def thought(self, deep):
        sort = self.one(["kind", "kind", "any", "none", "both", "some", "both", "some", "some"])
        if deep == 0 or sort in ("kind", "any", "none"):
            return self.one([("kind", kind) for kind in KINDS] * 2 + [("any",), ("none",)])
        if sort == "both":
            return ("both", self.thought(deep - 1), self.thought(deep - 1))
        return ("some", self.one(TIES), self.thought(deep - 1))

    def saying(self, deep):
        sort = self.one(["every", "every", "every", "same", "no", "tie", "chain", "runs", "thing", "thing", "link"])
        if sort in ("every", "same", "no"):
            return (sort, self.thought(deep), self.thought(deep))
        if sort == "tie":
            return (sort, self.one(TIES), self.one(TIES))
        if sort == "chain":
            return (sort, self.one(TIES), self.one(TIES), self.one(TIES))
        if sort == "runs":
            return (sort, self.one(TIES))
        if sort == "thing":
            return (sort, self.one(THINGS), self.thought(deep))
        return (sort, self.one(THINGS), self.one(TIES), self.one(THINGS))

    def book(self, many, deep):
        """A book whose numbers have gaps."""
        book = []
        number = 0
        for _ in range(many):
            number += 1 + self.upto(2)
            book.append((number, self.saying(deep)))
        return book

    def world(self, points, ties, things=THINGS):
        marks = [sorted(kind for kind in KINDS if self.upto(1)) for _ in range(points)]
        made = set()
        spots = []
        if points:
            made = {(self.upto(points - 1), self.one(TIES), self.upto(points - 1)) for _ in range(ties)}
            spots = [(thing, self.upto(points - 1)) for thing in things if self.upto(3)]
        return marks, sorted(made), sorted(spots)


def full_world(points, ties, names=("r", "s")):
    """A world with just so many points and ties, all kinds of ties as even as may be."""
    marks = [sorted(kind for place, kind in enumerate(KINDS) if point % (place + 2) == 0) for point in range(points)]
    made = []
    step = 0
    while len(made) < ties:
        for point in range(points):
            for name in names:
                if len(made) < ties:
                    made.append((point, name, (point * (step + 2) + step) % points))
        made = sorted(set(made))
        step += 1
    return marks, made, [("x", 0), ("y", points - 1)]


def ring(many, marked=(), tie="r"):
    """A world whose points are tied in a ring; those that are told in marked are of the kind a."""
    marks = [["a"] if point in marked else [] for point in range(many)]
    return marks, sorted((point, tie, (point + 1) % many) for point in range(many)), []


def path(many, tie="r"):
    """A world whose points are tied in a row that ends."""
    return [[] for _ in range(many)], [(point, tie, point + 1) for point in range(many - 1)], []
