"""The looker: whether cases of a plain statement for a name are right."""

from sumlaw.cases import cases_of, put_in
from sumlaw.shortened import is_never


def looked(told, name, cases):
    """True only where the cases are right, and of those that cases_of tells."""
    asked = cases_of(told, name)
    guards = {}
    for guard, top, bottom in cases:
        if is_never(guard):
            continue
        if guard != put_in(told, name, top, bottom):
            return False
        guards[guard] = True
    return all([case[0] in guards for case in asked])
