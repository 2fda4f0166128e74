"""Statements told true or false, and what is picked of them."""

from sumlaw.bare import bared
from sumlaw.errors import NoPick
from sumlaw.inward import inward
from sumlaw.measure import check_fits
from sumlaw.spans import any_number
from sumlaw.trees import filled_all, tree_of


def settling_place(word, parts):
    """The place of the first part that makes an or true or an and false, or None."""
    for place, part in enumerate(parts):
        if is_true(part) == (word == "or"):
            return place
    return None


def settling_number(word, part):
    """A number that makes a some true or an all false, or None."""
    return any_number(bared(inward(part if word == "some" else ("not", part))))


def settled_by(told):
    """What makes an or, a some true or an and, an all false, or None; no name is free in them."""
    word = told[0]
    if word in ("and", "or"):
        return settling_place(word, told[1])
    if word in ("some", "all"):
        return settling_number(word, told[2])
    return None


def is_true(told):
    """Whether a statement, in which no name is free, is true."""
    word = told[0]
    if word in ("least", "rest"):
        return tree_of(told).holds({})
    if word == "not":
        return not is_true(told[1])
    return (settled_by(told) is not None) == (word in ("or", "some"))


def closed(told, values):
    """The statement with numbers put in for all its free names, where it fits."""
    check_fits(told, 0)
    return filled_all(told, values)


def answer(told, values):
    """Whether a statement is true for values of its free names."""
    return is_true(closed(told, values))


def pick(told, values):
    """The place of the part, or the number, by which whoever is right goes on."""
    picked = settled_by(closed(told, values))
    if picked is None:
        raise NoPick("there is nothing to pick of this statement")
    return picked
