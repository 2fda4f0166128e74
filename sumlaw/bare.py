"""Statements bared: without some and all."""

from sumlaw.cases import taken_out
from sumlaw.inward import inward
from sumlaw.measure import check_fits
from sumlaw.shortened import joined, short_of


def bared(told):
    """A short statement for one that is pushed inward, which is not measured."""
    word = told[0]
    if word in ("and", "or"):
        return joined(word, [bared(part) for part in told[1]])
    if word == "some":
        return taken_out(bared(told[2]), told[1])
    if word == "all":
        against = inward(("not", bared(told[2])))
        return inward(("not", taken_out(against, told[1])))
    return short_of(told)


def bare(told):
    """A short statement that is as true as this one."""
    check_fits(told, 1)
    return bared(inward(told))
