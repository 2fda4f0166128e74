"""Statements measured: atoms, depth and load, and whether they fit."""

from sumlaw.errors import TooGreat
from sumlaw.numbers import least_common

MOST_ATOMS = 40
# The greatest load that fits, by depth.
MOST_LOAD = {1: 960, 2: 240, 3: 18}


def parts_of(told):
    """The statements right within a statement."""
    if told[0] in ("and", "or"):
        return told[1]
    if told[0] == "not":
        return (told[1],)
    if told[0] in ("some", "all"):
        return (told[2],)
    return ()


def all_within(told):
    """The statement and all statements within it, each as often as it is written."""
    found = [told]
    for part in parts_of(told):
        found.extend(all_within(part))
    return found


def atom_list(told):
    """The atoms in a statement, each as often as it is written."""
    return [one for one in all_within(told) if one[0] in ("least", "rest")]


def bound_list(told):
    """The names that the somes and alls in a statement bear, rising."""
    return sorted(set([one[1] for one in all_within(told) if one[0] in ("some", "all")]))


def outer_list(told):
    """The somes and alls in a statement that stand within no other one."""
    if told[0] in ("some", "all"):
        return [told]
    found = []
    for part in parts_of(told):
        found.extend(outer_list(part))
    return found


def least_common_of(numbers):
    """The least number that all these numbers divide, 1 where there are none."""
    total = 1
    # Each once: great numbers that come again and again would be costly.
    for number in sorted(set(numbers)):
        total = least_common(total, number)
    return total


def bound_share(told):
    """The number C of a some or an all: of the numbers that bound names have in its atoms."""
    bound = bound_list(told)
    numbers = []
    for atom in atom_list(told):
        total = atom[-1]
        numbers.extend([abs(k) for name, k in total[1] if name in bound])
    return least_common_of(numbers)


def divisor_share(told):
    """The number M of a some or an all: of the numbers by which its rests are told."""
    return least_common_of([atom[1] for atom in atom_list(told) if atom[0] == "rest"])


def atoms(told):
    """How many atoms there are in a statement."""
    return len(atom_list(told))


def depth(told):
    """How many somes and alls stand within one another."""
    inner = max([depth(part) for part in parts_of(told)], default=0)
    return inner + 1 if told[0] in ("some", "all") else inner


def load(told):
    """The load of a some or an all."""
    return atoms(told) * atoms(told) * bound_share(told) * divisor_share(told)


def binder_fits(told, more):
    """Whether a some or an all that stands within no other one fits."""
    deep = depth(told) + more
    if deep not in MOST_LOAD or load(told) > MOST_LOAD[deep]:
        return False
    return deep < 3 or bound_share(told) == 1


def fits(told, more=0):
    """Whether a statement fits, with more."""
    if atoms(told) > MOST_ATOMS:
        return False
    for outer in outer_list(told):
        if not binder_fits(outer, more):
            return False
    return True


def check_fits(told, more):
    """Refuses a statement that does not fit, with more."""
    if not fits(told, more):
        raise TooGreat("too many atoms, too many somes and alls within one another, or too great a load")


def check_flat(told):
    """Refuses a some whose answers are not told: one that does not fit, or has another depth than 1 or 2."""
    check_fits(told, 0)
    if depth(told) > 2:
        raise TooGreat("too many somes and alls within one another")
