"""The numbers of its one name that make a short statement true, rest by rest.

Numbers that leave one rest by a step are left + step * turn. The turns are looked at between two ends that lie so far
out that no least changes at them or beyond: a run of turns that comes up to one of the ends goes on without end.
"""

from sumlaw.measure import atom_list, divisor_share


def far_ends(told, step):
    """The least and the greatest turn to look at, the same ones for each rest."""
    # Short and of one name: the name's number is 1 or -1, and the least changes beside this number.
    changes = [-atom[1][0] * atom[1][1][0][1] for atom in atom_list(told) if atom[0] == "least"]
    return (min(changes, default=0) // step - 1, max(changes, default=0) // step + 1)


def merged(runs):
    """All that lies in one of these runs, as runs that rise and have gaps between them."""
    found = []
    for first, last in sorted(runs):
        if found and first <= found[-1][1] + 1:
            found[-1] = (found[-1][0], max(found[-1][1], last))
        else:
            found.append((first, last))
    return found


def gaps(runs, ends):
    """All between the ends that lies in none of these runs, which rise and have gaps between them."""
    found = []
    start = ends[0]
    for first, last in runs:
        if start < first:
            found.append((start, first - 1))
        start = last + 1
    if start <= ends[1]:
        found.append((start, ends[1]))
    return found


def least_turns(total, left, step, ends):
    """The turns for which the sum of a short least is at least nought."""
    c = total[0]
    if total[1][0][1] > 0:
        return [(-((c + left) // step), ends[1])]
    return [(ends[0], (c - left) // step)]


def true_turns(told, left, step, ends):
    """The turns for which a short statement of one name is true, as runs that rise and have gaps between them."""
    word = told[0]
    if word == "least":
        return least_turns(told[1], left, step, ends)
    if word == "rest":
        c = told[2][0]
        k = told[2][1][0][1]
        return [ends] if (c + k * left) % told[1] == 0 else []
    if word == "not":
        return gaps(true_turns(told[1], left, step, ends), ends)
    runs = []
    for part in told[1]:
        inner = true_turns(part, left, step, ends)
        runs.extend(inner if word == "or" else gaps(inner, ends))
    return merged(runs) if word == "or" else gaps(merged(runs), ends)


def any_number(told):
    """A number for which a short statement of one name is true, or None."""
    step = divisor_share(told)
    ends = far_ends(told, step)
    for left in range(step):
        runs = true_turns(told, left, step, ends)
        if runs:
            return left + step * runs[0][0]
    return None


def set_of(told):
    """The set of all numbers for which a short statement of one name is true."""
    step = divisor_share(told)
    ends = far_ends(told, step)
    runs = []
    for left in range(step):
        for first, last in true_turns(told, left, step, ends):
            lowest = None if first == ends[0] else left + step * first
            greatest = None if last == ends[1] else left + step * last
            runs.append((left, lowest, greatest))
    return (step, runs)
