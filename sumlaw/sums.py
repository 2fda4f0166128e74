"""Sums: tuples (c, pairs), the pairs (name, k) with names rising, each once, and no k that is 0."""

from sumlaw.errors import NoValue


def sum_of(c, pairs):
    """The sum of a list of pairs in any order, with names that may come more than once."""
    totals = {}
    for name, k in pairs:
        totals[name] = totals.get(name, 0) + k
    return (c, tuple([(name, totals[name]) for name in sorted(totals) if totals[name] != 0]))


def plus(one, other):
    """The sum of two sums."""
    return sum_of(one[0] + other[0], one[1] + other[1])


def times(k, one):
    """A sum k times."""
    return sum_of(k * one[0], [(name, k * own) for name, own in one[1]])


def share(one, name):
    """The number of a name in a sum, 0 where it has none."""
    for pair in one[1]:
        if pair[0] == name:
            return pair[1]
    return 0


def without(one, name):
    """The sum without that name's pair."""
    return (one[0], tuple([pair for pair in one[1] if pair[0] != name]))


def value(one, values):
    """The whole number that a sum stands for."""
    total = one[0]
    for name, k in one[1]:
        if name not in values:
            raise NoValue(f"{name} has no value")
        total = total + k * values[name]
    return total


def filled_sum(one, values, bound):
    """The sum with numbers put in for the names that have values and are not bound."""
    c = one[0]
    left = []
    for name, k in one[1]:
        if name in values and name not in bound:
            c = c + k * values[name]
        else:
            left.append((name, k))
    return (c, tuple(left))
