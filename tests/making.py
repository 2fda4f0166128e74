"""Statements for the tests: made by hand or by chance, and reckoned another way than the package does."""

import itertools
import math

from sumlaw.errors import SumError
from sumlaw.sums import sum_of

GREAT = 10 ** 199 + 7
NAMES = ["a", "b", "x", "x1", "y"]
YES = ("and", ())
NO = ("or", ())


def least(c, **names):
    return ("least", sum_of(c, list(names.items())))


def rest(m, c, **names):
    return ("rest", m, sum_of(c, list(names.items())))


X = least(0, x=1)
Y = least(0, y=1)


def any_atom(chance):
    pairs = [(name, chance.randrange(-3, 4)) for name in chance.sample(NAMES, chance.randrange(4))]
    total = sum_of(chance.randrange(-6, 7), pairs)
    if chance.randrange(2):
        return ("least", total)
    return ("rest", chance.randrange(1, 6), total)


def any_statement(chance, deep, words):
    word = chance.choice(words)
    if deep == 0 or word == "atom":
        return any_atom(chance)
    if word == "not":
        return ("not", any_statement(chance, deep - 1, words))
    if word in ("and", "or"):
        return (word, tuple(any_statement(chance, deep - 1, words) for turn in range(chance.randrange(4))))
    return (word, chance.choice(NAMES), any_statement(chance, deep - 1, words))


PLAIN = ["atom", "not", "and", "or"]
FULL = PLAIN + ["some", "all"]


def free(told):
    """The free names, reckoned another way."""
    if told[0] in ("least", "rest"):
        return {name for name, k in told[-1][1]}
    if told[0] == "not":
        return free(told[1])
    if told[0] in ("and", "or"):
        return set().union(*[free(part) for part in told[1]])
    return free(told[2]) - {told[1]}


def truth(told, values):
    if told[0] == "least":
        return told[1][0] + sum(k * values[name] for name, k in told[1][1]) >= 0
    if told[0] == "rest":
        return (told[2][0] + sum(k * values[name] for name, k in told[2][1])) % told[1] == 0
    if told[0] == "not":
        return not truth(told[1], values)
    truths = [truth(part, values) for part in told[1]]
    return all(truths) if told[0] == "and" else any(truths)


def put(told, values):
    """The numbers put in, reckoned another way: bound names lose their values on the way down."""
    if told[0] in ("least", "rest"):
        c = told[-1][0] + sum(k * values[name] for name, k in told[-1][1] if name in values)
        return told[:-1] + ((c, tuple(pair for pair in told[-1][1] if pair[0] not in values)),)
    if told[0] == "not":
        return ("not", put(told[1], values))
    if told[0] in ("and", "or"):
        return (told[0], tuple(put(part, values) for part in told[1]))
    return (told[0], told[1], put(told[2], {name: number for name, number in values.items() if name != told[1]}))


def nested(deep, inmost):
    """A statement with this many words within one another, all kinds by turns."""
    told = inmost
    for turn in range(deep):
        word = ("not", "and", "some", "or", "all")[turn % 5]
        if word == "not":
            told = ("not", told)
        elif word in ("and", "or"):
            told = (word, (told, least(turn, x=1, q=2)))
        else:
            told = (word, "b" + str(turn), told)
    return told


def atom_list(told):
    """The atoms, each as often as it is written, reckoned another way: without calling itself."""
    found, waiting = [], [told]
    while waiting:
        one = waiting.pop()
        if one[0] in ("least", "rest"):
            found.append(one)
        elif one[0] in ("and", "or"):
            waiting.extend(one[1])
        else:
            waiting.append(one[-1])
    return found


def kinds(thing):
    """The kinds of all that a tuple holds, however far within."""
    if type(thing) is not tuple:
        return {type(thing)}
    return {tuple}.union(*[kinds(part) for part in thing])


def some_values(chance, count):
    small = [{name: chance.randrange(-7, 8) for name in NAMES} for turn in range(count)]
    return small + [{name: chance.choice([-GREAT, -1, 0, 1, GREAT]) for name in NAMES}]


def least_faults(told):
    c, pairs = told[1]
    if not pairs or math.gcd(*[k for name, k in pairs]) != 1:
        return ["e"]
    return []


def rest_faults(told):
    m, (c, pairs) = told[1:]
    if m < 2 or not pairs or math.gcd(m, *[k for name, k in pairs]) != 1:
        return ["f"]
    return [] if all(0 <= number < m for number in [c] + [k for name, k in pairs]) else ["f"]


def faults(told, whole=True):
    """The letters of all that keeps a statement from being short."""
    if told[0] == "least":
        return least_faults(told)
    if told[0] == "rest":
        return rest_faults(told)
    if told[0] == "not":
        return faults(told[1], False) if told[1][0] == "rest" else ["a"]
    if whole and not told[1]:
        return []
    found = [] if len(told[1]) >= 2 else ["b"]
    for part in told[1]:
        found += faults(part, False) + (["c"] if part[0] == told[0] else [])
    for one, other in itertools.combinations(told[1], 2):
        if one == other:
            found.append("d")
        elif one[0] == other[0] == "least" and one[1][1] == other[1][1]:
            found.append("g")
    return found


def tried(told, name, values):
    """Numbers of the name of which one makes a plain statement true, where any does.

    Those are all numbers about nought and about each number where a least turns, as far as one round of all rests.
    """
    found = atom_list(told)
    far = math.lcm(*[atom[1] for atom in found if atom[0] == "rest"]) + 1
    turns = {0}
    for atom in found:
        k = dict(atom[-1][1]).get(name, 0)
        if atom[0] == "least" and k:
            turns.add((atom[1][0] + sum(own * values[one] for one, own in atom[1][1] if one != name)) // -k)
    return sorted({turn + j for turn in turns for j in range(-far, far + 1)})


def true_for_some(told, name, values):
    return any(truth(told, {**values, name: number}) for number in tried(told, name, values))


def full_truth(told, values, far):
    """Whether a statement is true; of a some or an all over another one all numbers up to far are tried.

    Within that one they are tried four times as far, as its numbers may have to lie beyond those of the outer one.
    """
    if told[0] in ("least", "rest"):
        return truth(told, values)
    if told[0] == "not":
        return not full_truth(told[1], values, far)
    if told[0] in ("and", "or"):
        truths = [full_truth(part, values, far) for part in told[1]]
        return all(truths) if told[0] == "and" else any(truths)
    word, name, part = told
    numbers = tried(part, name, values) if is_plain(part) else range(-far, far + 1)
    truths = (full_truth(part, {**values, name: number}, 4 * far) for number in numbers)
    return any(truths) if word == "some" else all(truths)


def is_plain(told):
    if told[0] in ("and", "or"):
        return all(is_plain(part) for part in told[1])
    return is_plain(told[1]) if told[0] == "not" else told[0] in ("least", "rest")


def any_bound(chance, names, count, most):
    """A plain statement of this many atoms, with numbers of the names up to most and small rests."""
    if count > 1:
        cut = chance.randrange(1, count)
        parts = (any_bound(chance, names, cut, most), any_bound(chance, names, count - cut, most))
        told = (chance.choice(["and", "or"]), parts)
    else:
        total = sum_of(chance.randrange(-2, 3), [(name, chance.randrange(-most, most + 1)) for name in names])
        told = ("rest", chance.randrange(1, 4), total) if chance.randrange(3) == 0 else ("least", total)
    return ("not", told) if chance.randrange(6) == 0 else told


def any_deep(chance, names, deep, count, most):
    """This many somes and alls within one another, with some of the atoms between them."""
    if deep == 0:
        return any_bound(chance, names, count, most)
    within = chance.randrange(max(1, count - 1), count + 1)
    part = any_deep(chance, names, deep - 1, within, most)
    if within < count:
        parts = [part, any_bound(chance, names, count - within, most)]
        chance.shuffle(parts)
        part = (chance.choice(["and", "or"]), tuple(parts))
    if chance.randrange(8) == 0:
        part = ("not", part)
    return (chance.choice(["some", "all"]), chance.choice(names), part)


def lies_in(told_set, number):
    """Whether a number lies in a set, reckoned another way."""
    step, runs = told_set
    return any((number - rest) % step == 0 and not (first is not None and number < first)
               and not (last is not None and number > last) for rest, first, last in runs)


def set_faults(told_set):
    """What keeps a set from the one form that it has by its step."""
    step, runs = told_set
    if type(told_set) is not tuple or type(step) is not int or type(runs) is not list or not 1 <= step <= 960:
        return ["kind"]
    found = []
    for run in runs:
        if type(run) is not tuple or type(run[0]) is not int or not {type(run[1]), type(run[2])} <= {int, type(None)}:
            return ["kind"]
        rest, first, last = run
        if not 0 <= rest < step or any(end is not None and end % step != rest for end in (first, last)):
            found.append("rest")
        if first is not None and last is not None and first > last:
            found.append("ends")
    for one, other in zip(runs, runs[1:]):
        if one[0] > other[0]:
            found.append("order")
        if one[0] == other[0] and (one[2] is None or other[1] is None or other[1] < one[2] + 2 * step):
            found.append("gap")
    return found


def refusal(function, *arguments):
    """The class with which something is refused, None where it is not; a refusal hides no other error."""
    try:
        function(*arguments)
    except SumError as refused:
        if refused.__cause__ or refused.__context__:
            raise AssertionError("a refusal out of another error") from refused
        return type(refused)
    return None


def within(count, part):
    """This many somes and alls by turns, around a part, with names that stand nowhere else."""
    for turn in range(count):
        part = (("some", "all")[turn % 2], "q" + str(turn), part)
    return part
