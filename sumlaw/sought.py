"""A number found for a name, by numbers alone."""

from sumlaw.measure import check_fits
from sumlaw.shortened import shortened
from sumlaw.spans import any_number
from sumlaw.trees import filled_but


def sought(told, name, values):
    """A number of the name for which a plain statement is true, or None."""
    check_fits(("some", name, told), 0)
    return any_number(shortened(filled_but(told, name, values)))
