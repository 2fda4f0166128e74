"""Two statements of which just one is true."""

from sumlaw.bare import bared
from sumlaw.inward import inward
from sumlaw.measure import check_flat
from sumlaw.shortened import joined
from sumlaw.spans import any_number
from sumlaw.trees import filled_but


def only(one, other):
    """The short statement that one short statement is true and another one is not."""
    return joined("and", [one, inward(("not", other))])


def unlike(one, other, name, values):
    """A number of the name for which just one of two statements is true, or None."""
    both = ("or", (one, other))
    check_flat(("some", name, both))
    parts = [bared(inward(part)) for part in filled_but(both, name, values)[1]]
    return any_number(joined("or", [only(parts[0], parts[1]), only(parts[1], parts[0])]))
