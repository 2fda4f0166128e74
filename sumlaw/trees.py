"""Statements as trees: told, written, told true or false for values, and with numbers put in.

Beside the methods that askers use, each class says of its own kind: `unbound(bound)`, the names in it
that are none of those bound around it, in any order and as often as they come; `holds(values)`, whether
it is true, every free name having a value; `put(values, bound)`, the tuple with numbers put in for names
that are not bound around it. Bound names are the keys of a dict.
"""

from sumlaw.errors import NoValue, SumError
from sumlaw.sums import filled_sum, value
from sumlaw.writing import figures, sum_text


def with_name(bound, name):
    """The bound names and one more; those that were handed in stay for the parts beside."""
    inner = dict(bound)
    inner[name] = True
    return inner


def check_values(names, values):
    """Refuses values that lack one of these names."""
    for name in names:
        if name not in values:
            raise NoValue(f"{name} has no value")


class Branch:
    """Any statement."""

    def __init__(self, told):
        self.statement = told

    def told(self):
        """The statement as a tuple."""
        return self.statement

    def loose(self):
        """The list of the free names, rising."""
        return sorted(set(self.unbound({})))

    def worth(self, values):
        """True or False, of a plain statement."""
        # Looked at ahead of all parts: one that settles the whole must not hide a name without a value.
        check_values(self.loose(), values)
        return self.holds(values)

    def filled(self, values):
        """The statement, as a tuple, with numbers put in for those of its free names that have values."""
        return self.put(values, {})


class Atom(Branch):
    """A statement about one sum."""

    def __init__(self, told, total):
        Branch.__init__(self, told)
        self.total = total

    def unbound(self, bound):
        return [pair[0] for pair in self.total[1] if pair[0] not in bound]


class Least(Atom):
    """That the sum is at least nought."""

    def wording(self):
        return sum_text(self.total) + " >= 0"

    def holds(self, values):
        return value(self.total, values) >= 0

    def put(self, values, bound):
        return ("least", filled_sum(self.total, values, bound))


class Rest(Atom):
    """That a number divides the sum."""

    def __init__(self, told, divisor, total):
        Atom.__init__(self, told, total)
        self.divisor = divisor

    def wording(self):
        return sum_text(self.total) + " alike 0 by " + figures(self.divisor)

    def holds(self, values):
        return value(self.total, values) % self.divisor == 0

    def put(self, values, bound):
        return ("rest", self.divisor, filled_sum(self.total, values, bound))


class Not(Branch):
    """That the part is not true."""

    def __init__(self, told, part):
        Branch.__init__(self, told)
        self.part = part

    def unbound(self, bound):
        return self.part.unbound(bound)

    def wording(self):
        return "not(" + self.part.wording() + ")"

    def holds(self, values):
        return not self.part.holds(values)

    def put(self, values, bound):
        return ("not", self.part.put(values, bound))


class Many(Branch):
    """A statement of any number of parts, under a word."""

    def __init__(self, told, word, parts):
        Branch.__init__(self, told)
        self.word = word
        self.parts = parts

    def unbound(self, bound):
        names = []
        for part in self.parts:
            names.extend(part.unbound(bound))
        return names

    def wording(self):
        return self.word + "(" + ", ".join([part.wording() for part in self.parts]) + ")"

    def put(self, values, bound):
        return (self.word, tuple([part.put(values, bound) for part in self.parts]))


class And(Many):
    """That all parts are true."""

    def holds(self, values):
        for part in self.parts:
            if not part.holds(values):
                return False
        return True


class Or(Many):
    """That one of the parts is true."""

    def holds(self, values):
        for part in self.parts:
            if part.holds(values):
                return True
        return False


class Binder(Branch):
    """A some or an all: the part, with a name that belongs to this place."""

    def __init__(self, told, word, name, part):
        Branch.__init__(self, told)
        self.word = word
        self.name = name
        self.part = part

    def unbound(self, bound):
        return self.part.unbound(with_name(bound, self.name))

    def wording(self):
        return self.word + "(" + self.name + ", " + self.part.wording() + ")"

    def holds(self, values):
        raise SumError("values alone do not settle a some or an all")

    def put(self, values, bound):
        return (self.word, self.name, self.part.put(values, with_name(bound, self.name)))


def tree_of(told):
    """The tree of a statement as a tuple."""
    word = told[0]
    if word == "least":
        return Least(told, told[1])
    if word == "rest":
        return Rest(told, told[1], told[2])
    if word == "not":
        return Not(told, tree_of(told[1]))
    if word == "and":
        return And(told, word, [tree_of(part) for part in told[1]])
    if word == "or":
        return Or(told, word, [tree_of(part) for part in told[1]])
    return Binder(told, word, told[1], tree_of(told[2]))


def filled_all(told, values):
    """The statement with numbers put in for all its free names, each of which needs a value."""
    tree = tree_of(told)
    check_values(tree.loose(), values)
    return tree.filled(values)


def filled_but(told, name, values):
    """The statement with numbers put in for all its free names but one, whose value is not looked at."""
    tree = tree_of(told)
    check_values([one for one in tree.loose() if one != name], values)
    others = dict(values)
    others.pop(name, None)
    return tree.filled(others)
