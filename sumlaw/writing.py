"""Whole numbers and sums, written as texts."""


def padded(number, powers, level):
    """A whole number below the power at this level as a text, with noughts ahead up to that power's figures."""
    if level == 0:
        return str(number).zfill(64)
    halves = divmod(number, powers[level - 1])
    return padded(halves[0], powers, level - 1) + padded(halves[1], powers, level - 1)


def figures(number):
    """A whole number of any size as a text."""
    if number < 0:
        return "-" + figures(-number)
    # By halves down to pieces of 64 figures, since str refuses numbers of some thousand figures.
    powers = [10 ** 64]
    if number < powers[0]:
        return str(number)
    while powers[-1] <= number:
        powers.append(powers[-1] * powers[-1])
    return padded(number, powers, len(powers) - 1).lstrip("0")


def term_text(k, name):
    """A term with its sign."""
    if k == 1:
        return name
    if k == -1:
        return "-" + name
    return figures(k) + "*" + name


def further(term):
    """A term with its sign as it stands behind another one: the sign between blanks."""
    if term.startswith("-"):
        return " - " + term[1:]
    return " + " + term


def sum_text(one):
    """A sum, by its names as they rise, then c."""
    terms = [term_text(k, name) for name, k in one[1]]
    if one[0] != 0 or not terms:
        terms.append(figures(one[0]))
    return terms[0] + "".join([further(term) for term in terms[1:]])
