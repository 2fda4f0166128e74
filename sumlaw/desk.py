"""The desk: statements kept by names, values of unknowns, and the lines that it is told."""

from sumlaw.answer import answer
from sumlaw.errors import Known, NoLine, Unknown
from sumlaw.reading import is_name, is_number, read
from sumlaw.sets import answers
from sumlaw.trees import tree_of
from sumlaw.writing import figures

# The words of each line, those in great letters standing for what may be there.
FORMS = (
    ("let", "NAME", "be", "TEXT"),
    ("drop", "NAME"),
    ("set", "NAME", "NUMBER"),
    ("clear", "NAME"),
    ("show", "NAME"),
    ("truth", "NAME"),
    ("which", "NAME", "for", "NAME"),
    ("names",),
)
MOST_FIGURES = 60


def run_text(rest, first, last):
    """A run of a set as a text."""
    start = figures(rest)
    if first is None:
        return start + (" all" if last is None else " up to " + figures(last))
    return start + " from " + figures(first) + (" on" if last is None else " to " + figures(last))


def written(told_set):
    """The text of a set."""
    if not told_set[1]:
        return "none"
    runs = [run_text(rest, first, last) for rest, first, last in told_set[1]]
    return "by " + figures(told_set[0]) + ": " + ", ".join(runs)


def is_signed(text):
    """Whether a text is a number as a line has it, perhaps with a minus ahead."""
    number = text[1:] if text.startswith("-") else text
    return len(number) <= MOST_FIGURES and is_number(number)


def can_stand(word, asked):
    """Whether a word of a line can stand where a form has this one."""
    if asked == "NAME":
        return is_name(word)
    if asked == "NUMBER":
        return is_signed(word)
    return asked == "TEXT" or word == asked


def has_form(words, form):
    """Whether the words of a line have a form."""
    return len(words) == len(form) and all([can_stand(word, asked) for word, asked in zip(words, form)])


def words_of(text):
    """The words of a line, TEXT as one word."""
    words = text.split(" ", 3) if text.startswith("let ") else text.split(" ")
    if not any([has_form(words, form) for form in FORMS]):
        raise NoLine("no line that the desk knows")
    return words


class Desk:
    """Statements by names, and values of unknowns."""

    def __init__(self):
        self.kept = {}
        self.given = {}

    def line(self, text):
        """The text told for a line."""
        words = words_of(text)
        if words[0] == "let":
            return self.let(words[1], words[3])
        if words[0] in ("set", "clear"):
            return self.value_line(words)
        if words[0] == "names":
            return ", ".join(sorted(self.kept)) if self.kept else "nothing"
        return self.kept_line(words)

    def let(self, name, text):
        """Keeps the statement that a text is read to."""
        if name in self.kept:
            raise Known(f"{name} is kept already")
        self.kept[name] = read(text)
        return "kept"

    def value_line(self, words):
        """Gives an unknown a value, or takes it."""
        if words[0] == "set":
            self.given[words[1]] = int(words[2])
            return "set"
        self.given.pop(words[1], None)
        return "clear"

    def kept_line(self, words):
        """What is told of a kept statement."""
        if words[1] not in self.kept:
            raise Unknown("no statement is kept under this name")
        told = self.kept[words[1]]
        if words[0] == "show":
            return tree_of(told).wording()
        if words[0] == "truth":
            return "true" if answer(told, self.given) else "false"
        if words[0] == "which":
            return written(answers(told, words[3], self.given))
        self.kept.pop(words[1])
        return "dropped"
