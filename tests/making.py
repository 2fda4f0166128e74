"""Statements for the tests: made by hand or by chance, and reckoned another way than the package does."""

from sumlaw.sums import sum_of

GREAT = 10 ** 199 + 7
NAMES = ["a", "b", "x", "x1", "y"]
YES = ("and", ())
NO = ("or", ())


def least(c, **names):
    return ("least", sum_of(c, list(names.items())))


def rest(m, c, **names):
    return ("rest", m, sum_of(c, list(names.items())))


X = least(0, x=1)
Y = least(0, y=1)


def any_atom(chance):
    pairs = [(name, chance.randrange(-3, 4)) for name in chance.sample(NAMES, chance.randrange(4))]
    total = sum_of(chance.randrange(-6, 7), pairs)
    if chance.randrange(2):
        return ("least", total)
    return ("rest", chance.randrange(1, 6), total)


def any_statement(chance, deep, words):
    word = chance.choice(words)
    if deep == 0 or word == "atom":
        return any_atom(chance)
    if word == "not":
        return ("not", any_statement(chance, deep - 1, words))
    if word in ("and", "or"):
        return (word, tuple(any_statement(chance, deep - 1, words) for turn in range(chance.randrange(4))))
    return (word, chance.choice(NAMES), any_statement(chance, deep - 1, words))


PLAIN = ["atom", "not", "and", "or"]
FULL = PLAIN + ["some", "all"]


def free(told):
    """The free names, reckoned another way."""
    if told[0] in ("least", "rest"):
        return {name for name, k in told[-1][1]}
    if told[0] == "not":
        return free(told[1])
    if told[0] in ("and", "or"):
        return set().union(*[free(part) for part in told[1]])
    return free(told[2]) - {told[1]}


def truth(told, values):
    if told[0] == "least":
        return told[1][0] + sum(k * values[name] for name, k in told[1][1]) >= 0
    if told[0] == "rest":
        return (told[2][0] + sum(k * values[name] for name, k in told[2][1])) % told[1] == 0
    if told[0] == "not":
        return not truth(told[1], values)
    truths = [truth(part, values) for part in told[1]]
    return all(truths) if told[0] == "and" else any(truths)


def put(told, values):
    """The numbers put in, reckoned another way: bound names lose their values on the way down."""
    if told[0] in ("least", "rest"):
        c = told[-1][0] + sum(k * values[name] for name, k in told[-1][1] if name in values)
        return told[:-1] + ((c, tuple(pair for pair in told[-1][1] if pair[0] not in values)),)
    if told[0] == "not":
        return ("not", put(told[1], values))
    if told[0] in ("and", "or"):
        return (told[0], tuple(put(part, values) for part in told[1]))
    return (told[0], told[1], put(told[2], {name: number for name, number in values.items() if name != told[1]}))


def nested(deep, inmost):
    """A statement with this many words within one another, all kinds by turns."""
    told = inmost
    for turn in range(deep):
        word = ("not", "and", "some", "or", "all")[turn % 5]
        if word == "not":
            told = ("not", told)
        elif word in ("and", "or"):
            told = (word, (told, least(turn, x=1, q=2)))
        else:
            told = (word, "b" + str(turn), told)
    return told


def atom_list(told):
    """The atoms, each as often as it is written, reckoned another way: without calling itself."""
    found, waiting = [], [told]
    while waiting:
        one = waiting.pop()
        if one[0] in ("least", "rest"):
            found.append(one)
        elif one[0] in ("and", "or"):
            waiting.extend(one[1])
        else:
            waiting.append(one[-1])
    return found


def kinds(thing):
    """The kinds of all that a tuple holds, however far within."""
    if type(thing) is not tuple:
        return {type(thing)}
    return {tuple}.union(*[kinds(part) for part in thing])
