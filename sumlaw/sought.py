"""A number found for a name, by numbers alone."""

from sumlaw.measure import atom_list, check_fits, least_common_of
from sumlaw.shortened import shortened
from sumlaw.trees import check_values, tree_of


def numbers_of(told):
    """Numbers of which one makes a short statement of one name true, where any number does."""
    found = atom_list(told)
    step = least_common_of([atom[1] for atom in found if atom[0] == "rest"])
    numbers = []
    for atom in found:
        if atom[0] == "least":
            # Short and of one name: the name's number is 1 or -1.
            c = atom[1][0]
            low = atom[1][1][0][1] > 0
            numbers.extend([j - c if low else c - j for j in range(step)])
    return sorted(set(numbers)) if numbers else list(range(step))


def found_number(told, name):
    """A number for which a short statement of this one name is true, or None."""
    if told[0] == "or":
        for part in told[1]:
            number = found_number(part, name)
            if number is not None:
                return number
        return None
    tree = tree_of(told)
    for number in numbers_of(told):
        if tree.holds({name: number}):
            return number
    return None


def without_value(values, name):
    """The values but that of one name."""
    left = dict(values)
    left.pop(name, None)
    return left


def sought(told, name, values):
    """A number of the name for which a plain statement is true, or None."""
    check_fits(("some", name, told), 0)
    tree = tree_of(told)
    others = without_value(values, name)
    check_values([one for one in tree.loose() if one != name], others)
    return found_number(shortened(tree.filled(others)), name)
