"""Sets of answers: tuples (step, runs), the runs tuples (rest, first, last) with None where there is no end."""

from sumlaw.bare import bared
from sumlaw.inward import inward
from sumlaw.measure import check_flat
from sumlaw.spans import set_of
from sumlaw.trees import filled_but


def answers(told, name, values):
    """The set of the numbers of a name for which a statement is true."""
    check_flat(("some", name, told))
    return set_of(bared(inward(filled_but(told, name, values))))


def run_from(step, run, number):
    """The least number in a run that is no less than a number, or None."""
    if run[1] is not None and run[1] >= number:
        return run[1]
    found = number + (run[0] - number) % step
    return found if run[2] is None or found <= run[2] else None


def nearest(told_set, number):
    """The least number in a set that is no less than a number, or None."""
    found = [run_from(told_set[0], run, number) for run in told_set[1]]
    return min([one for one in found if one is not None], default=None)


def inside(told_set, number):
    """Whether a number lies in a set."""
    return nearest(told_set, number) == number


def how_many(told_set):
    """How many numbers lie in a set, or None where they are without end."""
    total = 0
    for rest, first, last in told_set[1]:
        if first is None or last is None:
            return None
        total = total + (last - first) // told_set[0] + 1
    return total
