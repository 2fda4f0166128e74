"""Plain statements, shortened."""

from sumlaw.inward import inward
from sumlaw.numbers import common
from sumlaw.sums import sum_of

YES = ("and", ())
NO = ("or", ())


def is_never(told):
    """Whether a statement is the or of none."""
    return told == NO


def common_of(first, pairs):
    """The greatest number that divides the first number and the numbers of all pairs."""
    total = first
    for pair in pairs:
        total = common(total, pair[1])
    return total


def short_least(total):
    """A least alone, shortened."""
    c = total[0]
    pairs = total[1]
    if not pairs:
        return YES if c >= 0 else NO
    g = common_of(0, pairs)
    # The names' part goes by steps of g, so what c leaves by g never lifts it to nought.
    return ("least", (c // g, tuple([(name, k // g) for name, k in pairs])))


def short_rest(divisor, total):
    """A rest alone, shortened."""
    g = common_of(divisor, total[1])
    if total[0] % g != 0:
        return NO
    m = divisor // g
    if m == 1:
        return YES
    return ("rest", m, sum_of(total[0] // g % m, [(name, k // g % m) for name, k in total[1]]))


def flat(word, parts):
    """The parts, and in the place of each that has the word itself the parts of that one."""
    found = []
    for part in parts:
        if part[0] == word:
            found.extend(part[1])
        else:
            found.append(part)
    return found


def tighter(word, one, other):
    """The least that an and or an or of two leasts with the same pairs comes to."""
    if word == "and":
        return one if one[1][0] <= other[1][0] else other
    return one if one[1][0] >= other[1][0] else other


def each_once(word, parts):
    """The parts in their order, equal ones once, and of leasts with the same pairs one alone."""
    kept = {}
    for part in parts:
        if part[0] != "least":
            kept[part] = part
            continue
        key = ("least", part[1][1])
        kept[key] = tighter(word, kept[key], part) if key in kept else part
    return list(kept.values())


def joined(word, parts):
    """The and or the or of short statements, as a short one."""
    settled = NO if word == "and" else YES
    found = flat(word, parts)
    if settled in found:
        return settled
    kept = each_once(word, found)
    return kept[0] if len(kept) == 1 else (word, tuple(kept))


def short_of(told):
    """A short statement for a plain one that is pushed inward."""
    word = told[0]
    if word == "least":
        return short_least(told[1])
    if word == "rest":
        return short_rest(told[1], told[2])
    if word == "not":
        return inward(("not", short_of(told[1])))
    return joined(word, [short_of(part) for part in told[1]])


def shortened(told):
    """A short statement that is as true as a plain one."""
    return short_of(inward(told))
