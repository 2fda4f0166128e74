"""Texts cut into pieces, and statements read from them."""

from sumlaw.errors import NoText, TooLong
from sumlaw.sums import plus, sum_of, times

LETTERS = "abcdefghijklmnopqrstuvwxyz"
FIGURES = "0123456789"
SINGLES = "(),+-*="
WORDS = ("and", "or", "not", "some", "all", "alike", "by")
RELATIONS = (">=", "<=", "=", "alike")
MOST_SIGNS = 2000
MOST_FIGURES = 60
MOST_OPENED = 16


def check_length(text):
    """Refuses a text that is too long, or too deep, to be read at all."""
    if len(text) > MOST_SIGNS:
        raise TooLong("too many signs")
    run = 0
    opened = 0
    for sign in text:
        run = run + 1 if sign in FIGURES else 0
        if sign == "(":
            opened = opened + 1
        elif sign == ")":
            opened = opened - 1
        if run > MOST_FIGURES:
            raise TooLong("too many figures behind one another")
        if opened > MOST_OPENED:
            raise TooLong("too many round signs within one another")


def run_end(text, start, signs):
    """The first place from start on where none of these signs stands."""
    place = start
    while place < len(text) and text[place] in signs:
        place = place + 1
    return place


def piece_end(text, start):
    """The place right behind the piece that begins at start."""
    sign = text[start]
    if sign in LETTERS:
        return run_end(text, start, LETTERS + FIGURES)
    if sign in FIGURES:
        return run_end(text, start, FIGURES)
    if sign in SINGLES:
        return start + 1
    if text[start:start + 2] in (">=", "<="):
        return start + 2
    raise NoText(f"no piece begins with the sign at place {start}")


def pieces(text):
    """The list of the pieces of a text."""
    check_length(text)
    found = []
    place = 0
    while place < len(text):
        if text[place] == " ":
            place = place + 1
        else:
            end = piece_end(text, place)
            found.append(text[place:end])
            place = end
    return found


class Row:
    """Pieces that are taken one by one from the first on."""

    def __init__(self, found):
        self.found = found
        self.place = 0

    def ahead(self):
        """The piece that is taken next, the empty text where there is none."""
        if self.place < len(self.found):
            return self.found[self.place]
        return ""

    def take(self):
        """The next piece, taken."""
        piece = self.ahead()
        self.place = self.place + 1
        return piece

    def need(self, asked):
        """Takes the next piece, which has to be the one that is asked for."""
        piece = self.take()
        if piece != asked:
            raise NoText(f"{asked!r} is asked for where {piece!r} stands")


def is_name(text):
    """Whether a text is a name."""
    if text == "" or len(text) > 8 or text in WORDS or text[0] not in LETTERS:
        return False
    return run_end(text, 0, LETTERS + FIGURES) == len(text)


def is_number(text):
    """Whether a text is a number without a sign: 0, or figures with no 0 ahead."""
    if text == "" or run_end(text, 0, FIGURES) < len(text):
        return False
    return text == "0" or text[0] != "0"


def read_name(row):
    """A name, taken."""
    piece = row.take()
    if not is_name(piece):
        raise NoText(f"a name is asked for where {piece!r} stands")
    return piece


def read_number(row):
    """A number, taken."""
    piece = row.take()
    if not is_number(piece):
        raise NoText(f"a number is asked for where {piece!r} stands")
    return int(piece)


def read_term(row):
    """A number, a name, or a number times a name, as a sum."""
    if is_name(row.ahead()):
        return sum_of(0, [(row.take(), 1)])
    number = read_number(row)
    if row.ahead() != "*":
        return sum_of(number, [])
    row.need("*")
    return sum_of(0, [(read_name(row), number)])


def read_sum(row):
    """Terms with signs between them, and perhaps a minus ahead."""
    total = sum_of(0, [])
    # A first term stands as if behind a plus; a plus that is written ahead of it is none of the forms.
    sign = row.take() if row.ahead() == "-" else "+"
    while sign in ("+", "-"):
        term = read_term(row)
        total = plus(total, term if sign == "+" else times(-1, term))
        sign = row.take() if row.ahead() in ("+", "-") else ""
    return total


def read_relation(row):
    """Two sums with a relation between them."""
    left = read_sum(row)
    relation = row.take()
    if relation not in RELATIONS:
        raise NoText(f"a relation is asked for where {relation!r} stands")
    right = read_sum(row)
    over = plus(left, times(-1, right))
    if relation == "alike":
        row.need("by")
        divisor = read_number(row)
        if divisor == 0:
            raise NoText("by 0")
        return ("rest", divisor, over)
    upper = ("least", over)
    lower = ("least", times(-1, over))
    if relation == "=":
        return ("and", (upper, lower))
    return upper if relation == ">=" else lower


def read_parts(row):
    """Any number of statements with commas between them."""
    parts = []
    if row.ahead() != ")":
        parts.append(read_statement(row))
        while row.ahead() == ",":
            row.need(",")
            parts.append(read_statement(row))
    return tuple(parts)


def read_inner(row, word):
    """What stands between the round signs behind a word, as a statement with that word."""
    if word == "not":
        return (word, read_statement(row))
    if word in ("and", "or"):
        return (word, read_parts(row))
    name = read_name(row)
    row.need(",")
    return (word, name, read_statement(row))


def read_statement(row):
    """A statement, of whatever kind."""
    if row.ahead() not in ("and", "or", "not", "some", "all"):
        return read_relation(row)
    word = row.take()
    row.need("(")
    statement = read_inner(row, word)
    row.need(")")
    return statement


def read(text):
    """The statement, as a tuple, that a text is read to."""
    row = Row(pieces(text))
    statement = read_statement(row)
    # The empty text is no piece: it is ahead only where nothing stands behind the statement.
    row.need("")
    return statement
