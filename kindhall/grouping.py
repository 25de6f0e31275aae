"""Putting pairs in order by their first halves."""


def grouped(pairs):
    """A dict with, for each first half of a pair, the list of the second halves that stand with it."""
    told = {}
    for key, value in pairs:
        told.setdefault(key, []).append(value)
    return told
