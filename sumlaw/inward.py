"""Statements pushed inward, so that a not stands only right above a rest."""

from sumlaw.sums import plus, times

TURNED = {"and": "or", "or": "and", "some": "all", "all": "some"}


def pushed(told, against):
    """The statement pushed inward, or its not where against is True."""
    word = told[0]
    if word == "not":
        return pushed(told[1], not against)
    if word == "least":
        return ("least", plus((-1, ()), times(-1, told[1]))) if against else told
    if word == "rest":
        return ("not", told) if against else told
    turned = TURNED[word] if against else word
    if word in ("and", "or"):
        return (turned, tuple([pushed(part, against) for part in told[1]]))
    return (turned, told[1], pushed(told[2], against))


def inward(told):
    """The statement pushed inward."""
    return pushed(told, False)
