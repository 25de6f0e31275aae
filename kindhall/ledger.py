"""A log that grows, with its conclusions found at once."""

from kindhall.thoughts import add_parts


class Ledger:
    """A log, and its facts: its conclusions with numbers in the places of their thoughts and things.

    A conclusion may be nested too deep for the key of a dict; a fact is not. The place of each fact is in standing.
    In borne, onward, backward and behind are only those that were reached, so that two facts meet but once.
    """

    def __init__(self):
        self.log = []
        self.facts = []
        self.standing = {}
        self.subjects = []
        self.numbers = {}
        self.borne = {}
        self.onward = {}
        self.backward = {}
        self.behind = {}

    def number(self, subject):
        """The number of a thought or a thing; it and its parts get numbers where they have none."""
        return add_parts(subject, self.subjects, self.numbers)

    def fact(self, conclusion):
        """The fact of a conclusion."""
        if conclusion[0] == "is":
            return ("is", self.number(conclusion[1]), self.number(conclusion[2]))
        return ("tied", self.number(conclusion[1]), conclusion[2], self.number(conclusion[3]))

    def conclusion(self, fact):
        """The conclusion of a fact."""
        if fact[0] == "is":
            return ("is", self.subjects[fact[1]], self.subjects[fact[2]])
        return ("tied", self.subjects[fact[1]], fact[2], self.subjects[fact[3]])

    def adopt(self, step):
        """Take in a step as it is."""
        self.enter(step, self.fact(step[1]))

    def tell(self, rule, fact, ahead, number):
        """Add a step, unless its conclusion is told already."""
        if fact not in self.standing:
            self.enter((rule, self.conclusion(fact), ahead, number), fact)

    def enter(self, step, fact):
        """Add a step with its fact."""
        self.standing[fact] = len(self.facts)
        self.facts.append(fact)
        self.log.append(step)

    def reach(self, at):
        """The fact at the place, which is found by its subjects from now on."""
        fact = self.facts[at]
        if fact[0] == "is":
            self.borne.setdefault(fact[1], []).append(fact[2])
        else:
            sort, start, tie, end = fact
            self.onward.setdefault((start, tie), []).append(end)
            self.backward.setdefault((end, tie), []).append(start)
            self.behind.setdefault(end, []).append((start, tie))
        return fact
