"""Where conclusions stand in logs, how they came about, and what steps lean on."""


def place(log, conclusion):
    """The place of the first step that has the conclusion, None where none has."""
    for at, step in enumerate(log):
        if step[1] == conclusion:
            return at
    return None


def chain(log, conclusion):
    """The log of just those steps by which the conclusion first came about, None where it did not."""
    last = place(log, conclusion)
    if last is None:
        return None
    needed = {last: True}
    for at in range(last, -1, -1):
        if at in needed:
            for earlier in log[at][2]:
                needed[earlier] = True
    return picked(log, sorted(needed))


def leaned(log):
    """For each step the sorted list of the numbers that it leans on."""
    told = []
    for rule, conclusion, ahead, number in log:
        numbers = [] if number is None else [number]
        for at in sorted(set(ahead)):
            numbers.extend(told[at])
        told.append(sorted(set(numbers)))
    return told


def freed(log, number):
    """The log of all steps that do not lean on the number."""
    return picked(log, [at for at, numbers in enumerate(leaned(log)) if number not in numbers])


def picked(log, kept):
    """The log of the steps at the kept places alone, which are sorted, with the places ahead told anew."""
    anew = {at: now for now, at in enumerate(kept)}
    told = []
    for at in kept:
        rule, conclusion, ahead, number = log[at]
        told.append((rule, conclusion, tuple([anew[earlier] for earlier in ahead]), number))
    return told
