"""An unknown taken out of a plain statement: terms put in for it, its cases, and the statement without it."""

from sumlaw.measure import atom_list, check_fits, least_common_of
from sumlaw.numbers import common
from sumlaw.shortened import is_never, joined, shortened
from sumlaw.sums import plus, share, times, without
from sumlaw.trees import tree_of


def put_sum(total, name, top, bottom):
    """The sum with a term in the place of the name, bottom times."""
    return plus(times(bottom, without(total, name)), times(share(total, name), top))


def put_parts(told, name, top, bottom):
    """The statement with a term in the place of the name, right where bottom divides top."""
    word = told[0]
    if word in ("and", "or"):
        return (word, tuple([put_parts(part, name, top, bottom) for part in told[1]]))
    if word == "not":
        return ("not", put_parts(told[1], name, top, bottom))
    if share(told[-1], name) == 0:
        return told
    total = put_sum(told[-1], name, top, bottom)
    return ("least", total) if word == "least" else ("rest", bottom * told[1], total)


def put_in(told, name, top, bottom):
    """The short statement that comes of a term put in for a name in a plain one."""
    return shortened(("and", (("rest", bottom, top), put_parts(told, name, top, bottom))))


def step_of(found, name):
    """The least step of a name's number by which no rest among these atoms changes."""
    # A rest without the name is left as 1 here, since its m divides 0 times m.
    return least_common_of([atom[1] // common(atom[1], share(atom[2], name)) for atom in found if atom[0] == "rest"])


def bound_terms(total, name, step):
    """The terms of a least with the name: within a step of the number where it turns."""
    k = share(total, name)
    others = without(total, name)
    if k > 0:
        return [(plus((i, ()), times(-1, others)), k) for i in range(k * step)]
    return [(plus((-i, ()), others), -k) for i in range(-k * step)]


def terms_of(told, name):
    """Terms of which one makes a short statement true wherever some number of the name does."""
    found = atom_list(told)
    step = step_of(found, name)
    bounds = [atom[1] for atom in found if atom[0] == "least" and share(atom[1], name) != 0]
    if not bounds:
        return [((j, ()), 1) for j in range(step)]
    terms = []
    for total in bounds:
        terms.extend(bound_terms(total, name, step))
    return sorted(set(terms))


def all_cases(told, name):
    """The cases of a plain statement, which is not measured."""
    terms = terms_of(shortened(told), name)
    cases = [(put_in(told, name, top, bottom), top, bottom) for top, bottom in terms]
    return [case for case in cases if not is_never(case[0])]


def cases_of(told, name):
    """The list of the cases of a plain statement for a name."""
    check_fits(("some", name, told), 1)
    return all_cases(told, name)


def has_free(told, name):
    """Whether a name is free in a statement."""
    return name in tree_of(told).loose()


def taken_out(told, name):
    """A short statement, which is not measured, with the name taken out."""
    if not has_free(told, name):
        return told
    if told[0] == "or":
        return joined("or", [taken_out(part, name) for part in told[1]])
    beside = [part for part in told[1] if not has_free(part, name)] if told[0] == "and" else []
    if beside:
        inner = joined("and", [part for part in told[1] if has_free(part, name)])
        return joined("and", beside + [taken_out(inner, name)])
    return joined("or", [case[0] for case in all_cases(told, name)])


def taken(told, name):
    """The short statement that is true just where some number of the name makes a plain one true."""
    check_fits(("some", name, told), 1)
    return taken_out(shortened(told), name)
