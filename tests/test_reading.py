import random
import re
import unittest

from making import FULL, NO, X, Y, YES, any_statement, kinds, least, rest
from sumlaw.errors import NoText, SumError, TooLong
from sumlaw.reading import pieces, read
from sumlaw.trees import tree_of

SIXTY = 10 ** 59 + 3
EVERY_SIGN = ["(", ")", ",", "+", "-", "*", "=", ">=", "<="]
WORDS = ["and", "or", "not", "some", "all", "alike", "by"]
WRONG_SIGNS = list("><!#$&'./:;?@[\\]^_`{|}~\"%AZX\t\n\r\x00\x0b\xa0\u2003\xe9\u0660\xb2\uff11\u2212\uff08\u03b1")

PIECE = r"[a-z][a-z0-9]*|[0-9]+|>=|<=|[(),+*=-]"
NAME = r"(?!(?:and|or|not|some|all|alike|by)(?!\S))[a-z][a-z0-9]{0,7}(?!\S)"
NUMBER = r"(?:0|[1-9][0-9]*)(?!\S)"
TERM = rf"(?:{NUMBER} \* {NAME}|{NUMBER}|{NAME})"
SUM = rf"(?:- )?{TERM}(?: [+-] {TERM})*"
RELATION = rf"(?<!\S){SUM} (?:(?:>=|<=|=) {SUM}|alike {SUM} by [1-9][0-9]*)(?!\S)"
FORM = rf"(?<!\S)(?:(?:and|or) \( (?:S (?:, S )*)?\)|not \( S \)|(?:some|all) \( {NAME} , S \))(?!\S)"


def is_statement(row):
    """Whether pieces are a statement, reckoned another way: S takes the place of what is one."""
    text = re.sub(RELATION, "S", " ".join(row))
    while True:
        further = re.sub(FORM, "S", text)
        if further == text:
            return text == "S"
        text = further


def is_cut(text):
    """Whether nothing but pieces and blanks stands in a text."""
    return re.sub(PIECE + "| ", "", text) == ""


def is_too_long(text):
    deepest = max(text[:end].count("(") - text[:end].count(")") for end in range(len(text) + 1))
    return len(text) > 2000 or re.search("[0-9]{61}", text) is not None or deepest >= 17


class Refusing(unittest.TestCase):
    def assert_refused(self, refusal, call, text):
        with self.assertRaises(SumError, msg=text) as caught:
            call(text)
        self.assertIs(type(caught.exception), refusal, text)
        self.assertIsInstance(caught.exception, ValueError)
        self.assertIsNone(caught.exception.__cause__)
        self.assertIsNone(caught.exception.__context__)
        self.assertNotIsInstance(caught.exception, NoText if refusal is TooLong else TooLong)


class Pieces(Refusing):
    def test_words(self):
        for word in ["x", "z9", "abcdefgh", "abcdefghi", "a" * 500, "and", "alike", "x0a1b2", "q" + "9" * 60, "x007"]:
            self.assertEqual(pieces(word), [word])
            self.assertEqual(pieces(f"  {word} {word}"), [word, word])

    def test_numbers(self):
        for number in ["0", "7", "007", "000", "0" * 60, "9" * 60, "1234567890"]:
            self.assertEqual(pieces(number), [number])
            self.assertEqual(pieces(number + "x"), [number, "x"])
            self.assertEqual(pieces("x " + number), ["x", number])
            self.assertEqual(pieces(f"({number})"), ["(", number, ")"])
        for text, asked in (("2x", ["2", "x"]), ("2x3", ["2", "x3"]), ("x2 3y4z", ["x2", "3", "y4z"]),
                            ("00and00", ["00", "and00"]), ("1 2", ["1", "2"]), ("1-2", ["1", "-", "2"]),
                            ("12ab34+5", ["12", "ab34", "+", "5"])):
            self.assertEqual(pieces(text), asked)

    def test_signs(self):
        for sign in EVERY_SIGN:
            self.assertEqual(pieces(sign), [sign])
            self.assertEqual(pieces(f"x{sign}3"), ["x", sign, "3"])
            self.assertEqual(pieces(f" x  {sign} 3 "), ["x", sign, "3"])
        self.assertEqual(pieces(")(" + "".join(EVERY_SIGN)), [")", "("] + EVERY_SIGN)
        for text, asked in (("==", ["=", "="]), (">==", [">=", "="]), ("=>=", ["=", ">="]), ("<=>=", ["<=", ">="]),
                            ("<==", ["<=", "="]), ("--", ["-", "-"]), ("**", ["*", "*"])):
            self.assertEqual(pieces(text), asked)

    def test_blanks(self):
        asked = ["some", "(", "x", ",", "2", "*", "x", ">=", "1", ")"]
        for text in ("some(x,2*x>=1)", "some(x, 2*x >= 1)", "   some  ( x ,2 *x   >=1 )    ", "some(x,2*x>=1) "):
            self.assertEqual(pieces(text), asked)
        for text in ("", " ", " " * 2000):
            self.assertEqual(pieces(text), [])

    def test_other_signs(self):
        for sign in WRONG_SIGNS:
            for text in (sign, "x" + sign, sign + "x", f"x {sign} 3", f"x >= 0{sign}", sign + " >= 0"):
                self.assert_refused(NoText, pieces, text)
        for text in ("> =", "< =", ">", "<", "<>", "=>", "=<", ">>=", "x > 0", "x < 0", "x >=0 <", "X", "aB", "And()"):
            self.assert_refused(NoText, pieces, text)

    def test_kinds_and_a_new_list_each_time(self):
        first = pieces("2x >= 0")
        second = pieces("2x >= 0")
        self.assertIs(type(first), list)
        self.assertTrue(all(type(piece) is str for piece in first))
        self.assertIsNot(first, second)
        first.append("q")
        first[0] = "p"
        self.assertEqual(second, ["2", "x", ">=", "0"])
        self.assertEqual(pieces("2x >= 0"), ["2", "x", ">=", "0"])
        empty = pieces("")
        empty.append("q")
        self.assertEqual(pieces(""), [])
        self.assertEqual(read("2 >= 0"), least(2))

    def test_many_against_another_reckoning(self):
        chance = random.Random(21)
        for turn in range(4000):
            text = "".join(chance.choices("abz019 ()+-,*=><", [3] * 15 + [1], k=chance.randrange(12)))
            if is_cut(text):
                self.assertEqual(pieces(text), re.findall(PIECE, text), text)
            else:
                self.assert_refused(NoText, pieces, text)


class Lengths(Refusing):
    def assert_too_long(self, text, asked):
        """The text as it is, and with wrong signs and wrong forms about it."""
        self.assertEqual(is_too_long(text), asked)
        for call in (pieces, read):
            if asked:
                for wrong in (text, text + "!", "!" + text, text + "\n", "A" + text, text + ")", text + " 1 2"):
                    self.assert_refused(TooLong, call, wrong)
            else:
                self.assert_refused(NoText, call, "!" + text[1:])

    def test_signs(self):
        full = "x >= " + " " * 1994 + "0"
        self.assertEqual(len(full), 2000)
        self.assertEqual(pieces(full), ["x", ">=", "0"])
        self.assertEqual(read(full), X)
        self.assert_too_long(full, False)
        self.assert_too_long(full + " ", True)
        self.assert_too_long("x" * 2001, True)
        self.assertEqual(pieces("x" * 2000), ["x" * 2000])
        self.assert_refused(NoText, read, "x" * 2000)
        self.assert_refused(NoText, pieces, "\n" * 2000)
        for text in ("\n" * 2001, "\u0660" * 2001, " " * 2001, "x >= 0" + " " * 2000):
            self.assert_refused(TooLong, pieces, text)
            self.assert_refused(TooLong, read, text)

    def test_figures(self):
        number = "1" * 60
        self.assertEqual(read(f"x >= {number}"), least(-int(number), x=1))
        self.assertEqual(pieces(f"{number} {number}"), [number, number])
        self.assertEqual(pieces(f"{number}x{number}"), [number, "x" + number])
        great = int(number)
        self.assertEqual(read(f"{number}*x-{number} alike 0 by {number}"), rest(great, -great, x=great))
        self.assert_too_long(f"{number} >= 0", False)
        for text in (number + "1 >= 0", f"x >= {number}1", "0" * 61, "0" + number, "x" + number + "1", f"2 {number}0",
                     f"x alike 0 by {number}2", number * 3):
            self.assert_too_long(text, True)
        self.assert_refused(NoText, read, "0" * 60 + " >= 0")
        self.assert_refused(NoText, pieces, "\u0661" * 61)

    def test_round_signs(self):
        deep = X
        for turn in range(16):
            deep = ("not", deep)
        sixteen = "not(" * 16 + "x >= 0" + ")" * 16
        self.assertEqual(read(sixteen), deep)
        self.assertEqual(read(f"and({sixteen[4:-1]}, {sixteen[4:-1]})"), ("and", (deep[1], deep[1])))
        self.assertEqual(pieces("(" * 16), ["("] * 16)
        self.assertEqual(pieces(")" * 5 + "(" * 21), [")"] * 5 + ["("] * 21)
        self.assert_too_long("(" * 16, False)
        for text in ("(" * 17, "not(" + sixteen + ")", "(" * 17 + ")" * 17, "()" * 30 + "(" * 17, ")" * 5 + "(" * 22,
                     "and(" + sixteen + ")", "x >= 0" + "(" * 17 + ")" * 17, "(" * 10 + ")" * 3 + "(" * 10):
            self.assert_too_long(text, True)
        wide = "and(" + ", ".join(["and()"] * 200) + ")"
        self.assertEqual(read(wide), ("and", (YES,) * 200))

    def test_many_against_another_reckoning(self):
        chance = random.Random(22)
        for turn in range(1500):
            runs = [chance.choice("(()1x!>= ") * chance.choice([1, 3, 16, 17, 60, 61]) for turn in range(5)]
            text = "".join(chance.sample(runs, chance.randrange(1, 6)))
            if is_too_long(text):
                self.assert_refused(TooLong, pieces, text)
                self.assert_refused(TooLong, read, text)
            elif is_cut(text):
                self.assertEqual(pieces(text), re.findall(PIECE, text))
            else:
                self.assert_refused(NoText, pieces, text)


class Read(Refusing):
    def assert_read(self, text, told):
        """The text as it is, without blanks where it may be, and with many."""
        row = pieces(text)
        for written in (text, " ".join(row), "  " + "   ".join(row) + "  "):
            self.assertEqual(read(written), told, written)
        tight = row[0]
        for piece in row[1:]:
            tight = tight + (" " if tight[-1].isalnum() and piece[0].isalnum() else "") + piece
        self.assertEqual(read(tight), told, tight)

    def assert_there_and_back(self, told):
        self.assert_read(tree_of(told).wording(), told)

    def test_what_is_written_is_read(self):
        for told in (YES, NO, X, Y, ("and", (X,)), ("or", (Y,)), ("and", (X, Y, X)), ("or", (YES, NO, X)), ("not", X),
                     ("not", ("not", YES)), ("some", "x", X), ("all", "y1", X), ("some", "x", ("all", "x", NO)),
                     ("or", tuple(least(c, x=1) for c in range(60))), least(0), least(1), least(-1), rest(1, 0),
                     rest(2, -1), rest(1, 0, x=1), rest(7, 3, x=-1, y=2), least(SIXTY, x=SIXTY, y=-SIXTY),
                     rest(SIXTY, -SIXTY, x=-SIXTY), least(-7, x=-2, y=1), least(1, abcdefg9=-11, x2=1, x10=2)):
            self.assert_there_and_back(told)
        for c in (0, 1, -1, 10, -10, SIXTY, -SIXTY):
            for k in (1, -1, 2, -2, 10, SIXTY, -SIXTY):
                self.assert_there_and_back(least(c, x=k))
                self.assert_there_and_back(rest(10, c, x=k, y=-k))

    def test_any_that_is_written_is_read(self):
        chance = random.Random(23)
        seen = 0
        for turn in range(600):
            told = any_statement(chance, 5, FULL)
            if len(tree_of(told).wording()) <= 500:
                seen = seen + 1
                self.assert_there_and_back(told)
        self.assertGreater(seen, 300)

    def test_relations(self):
        for text, told in (
                ("x >= 0", X), ("0 <= x", X), ("x <= 0", least(0, x=-1)), ("0 >= x", least(0, x=-1)),
                ("x >= y", least(0, x=1, y=-1)), ("x <= y", least(0, x=-1, y=1)), ("3 >= 2", least(1)),
                ("2 >= 3", least(-1)), ("2 <= 3", least(1)), ("3 <= 2", least(-1)), ("0 >= 0", least(0)),
                ("-5 >= -7", least(2)), ("-5 <= -7", least(-2)), ("-0 >= 0", least(0)),
                ("2*x - 3 >= y + x - 4*z + 1", least(-4, x=1, y=-1, z=4)),
                ("2*x - 3 <= y + x - 4*z + 1", least(4, x=-1, y=1, z=-4)),
                ("x = y", ("and", (least(0, x=1, y=-1), least(0, x=-1, y=1)))),
                ("x = 3", ("and", (least(-3, x=1), least(3, x=-1)))),
                ("3 = x", ("and", (least(3, x=-1), least(-3, x=1)))),
                ("1 = 2", ("and", (least(-1), least(1)))), ("0 = 0", ("and", (least(0), least(0)))),
                ("2*x + 1 = y - 5", ("and", (least(6, x=2, y=-1), least(-6, x=-2, y=1)))),
                ("x alike y by 5", rest(5, 0, x=1, y=-1)), ("x alike 0 by 1", rest(1, 0, x=1)),
                ("3*x + 10 alike 2*x - 4 by 3", rest(3, 14, x=1)), ("1 alike 12 by 7", rest(7, -11)),
                ("-x alike -y by 10", rest(10, 0, x=-1, y=1)), ("7*x alike 9 by 3", rest(3, -9, x=7))):
            self.assert_read(text, told)

    def test_sums(self):
        for text, total in (
                ("x + x", (0, (("x", 2),))), ("x - x", (0, ())), ("x - 2*x", (0, (("x", -1),))), ("0*x", (0, ())),
                ("0*x + y", (0, (("y", 1),))), ("-0*x - 0", (0, ())), ("0", (0, ())), ("-0", (0, ())), ("-7", (-7, ())),
                ("1 + 2 - 4", (-1, ())), ("1*x", (0, (("x", 1),))), ("-1*x", (0, (("x", -1),))),
                ("y - x + 3 + 2*y - 5 + x + 10*b", (-2, (("b", 10), ("y", 3)))), ("5 - x", (5, (("x", -1),))),
                ("-5 - 3*x1 - y", (-5, (("x1", -3), ("y", -1)))), ("z9 - abcdefgh", (0, (("abcdefgh", -1), ("z9", 1)))),
                ("x2 + x10 + x", (0, (("x", 1), ("x10", 1), ("x2", 1)))), ("12*x - 12", (-12, (("x", 12),))),
                (f"{SIXTY}*x + {SIXTY}*x - {SIXTY} - {SIXTY}", (-2 * SIXTY, (("x", 2 * SIXTY),)))):
            self.assert_read(text + " >= 0", ("least", total))
            self.assert_read(text + " alike 0 by 6", ("rest", 6, total))
        self.assert_read("x + 1 >= x", least(1))
        self.assert_read("3*x alike x + 2*x by 2", rest(2, 0))
        self.assert_read("y >= 0*x", Y)

    def test_names_like_words(self):
        for name in ("an", "ando", "nota", "somex", "all1", "alikes", "byx", "b", "or0", "s"):
            self.assert_read(f"some({name}, {name} >= 0)", ("some", name, ("least", (0, ((name, 1),)))))

    def test_forms_freely(self):
        self.assert_read("and ( x>=0,or( ) , not (y<=0) )", ("and", (X, NO, ("not", least(0, y=-1)))))
        self.assert_read("all(x,some(y,x=y))",
                         ("all", "x", ("some", "y", ("and", (least(0, x=1, y=-1), least(0, x=-1, y=1))))))
        self.assert_read("or(x alike 0 by 2, x + 1 alike 0 by 2)", ("or", (rest(2, 0, x=1), rest(2, 1, x=1))))
        self.assert_read("some(x, some(x, 2 <= 3))", ("some", "x", ("some", "x", least(1))))

    def test_not_written_so(self):
        for text in (
                "", " ", "x", "3", "and", "not", "some", "x >=", ">= 0", "= 0", "x 0", "x y", "x >= 0 0", "x >= 0 y",
                "x >= 0,", "x >= 0)", "(x >= 0)", "x >= 0 and", "x >= 0 and y >= 0", "(x) >= 0", "x >= (0)", "()",
                "and(", "and)", "and(x >= 0", "and x >= 0)", "andx >= 0)", "and(x >= 0))", "and(,)", "and(x >= 0,)",
                "and(, x >= 0)", "and(x >= 0 y >= 0)", "and(x >= 0,, y >= 0)", "and()()", "and() and()", "and(and)",
                "and((x >= 0))", "or", "or(x)", "or(3)", "xor()", "not()", "not(x >= 0, y >= 0)", "not x >= 0",
                "not(not)", "not(x)", "some()", "some(x)", "some(x,)", "some(x >= 0)", "some(, x >= 0)",
                "some(x x >= 0)", "some(x, x >= 0, x >= 0)", "some(3, x >= 0)", "some((x), x >= 0)",
                "some(x, y, x >= 0)", "some x, x >= 0", "some(x; x >= 0)", "some(-x, x >= 0)", "all(x + y, x >= 0)",
                "007 >= 0", "00 >= 0", "x >= 01", "01*x >= 0", "x alike 0 by 02", "x alike 00 by 2", "-00 >= 0",
                "x alike 0 by 0", "x alike 0 by -2", "x alike 0 by x", "x alike 0 by 2*x", "x alike 0 by 1 + 1",
                "x alike 0 by", "x alike 0", "x alike by 2", "alike 0 by 2", "x by 2", "x >= 0 by 2",
                "x alike 0 by 2 3", "x alike 0 by 2 by 2", "x alike 0 alike 0 by 2", "x alike 0 by 2 >= 0",
                "x alike 0 by (2)",
                "abcdefghi >= 0", "x + abcdefghi >= 0", "2*abcdefghi >= 0", "some(abcdefghi, x >= 0)",
                "x*3 >= 0", "x*y >= 0", "2 x >= 0", "2x >= 0", "2*3 >= 0", "2*3*x >= 0", "2**x >= 0", "*x >= 0",
                "2* >= 0", "2*-x >= 0", "- -x >= 0", "--x >= 0", "-+x >= 0", "+x >= 0", "x >= +3", "x >= --3",
                "x + -y >= 0", "x - -y >= 0", "x + + y >= 0", "x + >= 0", "x - >= 0", "- >= 0", "x >= -",
                "x >= >= 0", "x >= = 0", "x >= 0 >= 0", "0 <= x <= 3", "x = y = z", "x == y", "x =", "= x",
                "and() >= 0", "x >= and()", "x + not(y >= 0) >= 0", "(x >= 0) >= 0", "some(x, x >= 0) + 1 >= 0",
                "and(x >= 0) = or()", "x > 0", "x < 0", "x => 0", "x =< 0", "x > = 0", "X >= 0", "x >= 0.", "x\t>= 0",
                "x >= 0\n", "\nx >= 0", "x >= 0;", "x_1 >= 0", "x != 0", "And()", "x >= 0 # so"):
            self.assert_refused(NoText, read, text)

    def test_words_in_a_names_place(self):
        for word in WORDS:
            for text in ("{} >= 0", "x >= {}", "2*{} >= 0", "x + {} >= 0", "-{} >= 0", "some({}, x >= 0)",
                         "all({}, x >= 0)", "x alike {} by 2", "x alike 0 by {}", "{} alike 0 by 2", "not({})"):
                self.assert_refused(NoText, read, text.format(word))

    def test_a_piece_too_many_or_too_few_or_another_one(self):
        pool = EVERY_SIGN + WORDS + ["x", "abcdefghi", "0", "2", "07"]
        for text in ("x >= 0", "-2*x + y <= 3", "x = y - 1", "2*x alike y by 3", "and()",
                     "or(x >= 0, y = 0, not(and()))", "some(x, x - 1 >= 0)", "all(y, not(some(x, x alike 0 by 2)))"):
            row = pieces(text)
            self.assertTrue(is_statement(row), text)
            tried = [row[:place] + row[place + 1:] for place in range(len(row))]
            tried += [row[:place] + [piece] + row[place:] for place in range(len(row) + 1) for piece in pool]
            tried += [row[:place] + [piece] + row[place + 1:] for place in range(len(row)) for piece in pool]
            tried += [row[:place] + row[place + 1:place + 2] + row[place:place + 1] + row[place + 2:]
                      for place in range(len(row) - 1)]
            for other in tried:
                if is_statement(other):
                    read(" ".join(other))
                else:
                    self.assert_refused(NoText, read, " ".join(other))

    def test_any_pieces_against_another_reckoning(self):
        chance = random.Random(24)
        pool = EVERY_SIGN + ["x", "y", "0", "2", "x", "2", "and", "or", "alike", "by", "not", ">=", "-", "+"]
        right = 0
        for turn in range(20000):
            row = chance.choices(pool, k=chance.randrange(1, 7))
            if is_statement(row):
                right = right + 1
                read(" ".join(row))
            else:
                self.assert_refused(NoText, read, " ".join(row))
        self.assertGreater(right, 50)

    def test_the_same_each_time(self):
        text = "some(x, and(x >= 0, 2*x alike 1 by 3))"
        self.assertEqual(read(text), read(text))
        self.assertEqual(read(text), ("some", "x", ("and", (X, rest(3, -1, x=2)))))
        self.assertEqual(text, "some(x, and(x >= 0, 2*x alike 1 by 3))")

    def test_kinds(self):
        told = read("and(x = 3, some(y, y alike x by 2))")
        self.assertEqual(kinds(told), {tuple, str, int})


if __name__ == "__main__":
    unittest.main()
