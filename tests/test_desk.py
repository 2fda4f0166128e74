import random
import unittest

from making import any_deep, rest
from sumlaw.answer import answer
from sumlaw.desk import Desk, written
from sumlaw.errors import Known, NoLine, NoText, NoValue, SumError, TooGreat, TooLong, Unknown
from sumlaw.measure import fits
from sumlaw.reading import read
from sumlaw.sets import answers
from sumlaw.trees import tree_of


class Written(unittest.TestCase):
    def test_each_kind(self):
        for told_set, asked in (
                ((1, []), "none"), ((960, []), "none"), ((1, [(0, None, None)]), "by 1: 0 all"),
                ((2, [(1, 3, 9)]), "by 2: 1 from 3 to 9"), ((2, [(1, 3, 3)]), "by 2: 1 from 3 to 3"),
                ((2, [(1, -3, None)]), "by 2: 1 from -3 on"), ((960, [(959, None, -1)]), "by 960: 959 up to -1"),
                ((1, [(0, None, 0)]), "by 1: 0 up to 0"), ((1, [(0, 0, None)]), "by 1: 0 from 0 on"),
                ((1, [(0, None, -5), (0, -3, 0), (0, 7, None)]), "by 1: 0 up to -5, 0 from -3 to 0, 0 from 7 on"),
                ((3, [(0, None, None), (1, -2, 1), (2, 5, None)]), "by 3: 0 all, 1 from -2 to 1, 2 from 5 on"),
                ((4, [(0, None, 8), (3, None, None)]), "by 4: 0 up to 8, 3 all")):
            kept = (told_set[0], list(told_set[1]))
            self.assertEqual(written(told_set), asked)
            self.assertEqual(told_set, kept)

    def test_of_any_size(self):
        zeros = "0" * 9000
        great = 10 ** 9000
        self.assertEqual(written((1, [(0, -great, great)])), "by 1: 0 from -1" + zeros + " to 1" + zeros)
        self.assertEqual(written((10, [(0, great, None)])), "by 10: 0 from 1" + zeros + " on")
        self.assertEqual(written((10, [(0, None, -great)])), "by 10: 0 up to -1" + zeros)

    def test_told_sets(self):
        self.assertEqual(written(answers(rest(2, 0), "x", {})), "by 1: 0 all")
        self.assertEqual(written(answers(rest(2, 1), "x", {})), "none")
        self.assertEqual(written(answers(read("and(x >= 1, x <= 4)"), "x", {})), "by 1: 0 from 1 to 4")


class Lines(unittest.TestCase):
    def setUp(self):
        self.desk = Desk()

    def told(self, *lines):
        """Lines and what is told for each, by turns."""
        for line, asked in zip(lines[::2], lines[1::2]):
            got = self.desk.line(line)
            self.assertIs(type(got), str)
            self.assertEqual(got, asked, line)

    def state(self):
        """All that a desk can tell of itself without a value or a statement being changed."""
        found = [self.desk.line("names")]
        for name in found[0].split(", "):
            if found[0] != "nothing":
                found.append(self.desk.line("show " + name))
        for name in ["x", "y", "z", "a", "p", "q"]:
            found.append(self.value_of(name))
        return found

    def value_of(self, name):
        """The value that the desk has of an unknown, by a statement that is kept for this alone."""
        self.desk.line("let probe be zz = " + name)
        try:
            return self.desk.line("which probe for zz")
        except NoValue:
            return None
        finally:
            self.desk.line("drop probe")

    def refused(self, line, asked):
        """Refused with just this class, and all stands as before."""
        before = self.state()
        with self.assertRaises(SumError) as caught:
            self.desk.line(line)
        self.assertIs(type(caught.exception), asked, line)
        self.assertIsNone(caught.exception.__cause__ or caught.exception.__context__)
        self.assertEqual(self.state(), before, line)

    def test_each_line(self):
        self.told("names", "nothing", "let p be x >= 3", "kept", "names", "p", "show p", "x - 3 >= 0", "set x 3", "set",
                  "truth p", "true", "set x 2", "set", "truth p", "false", "which p for x", "by 1: 0 from 3 on",
                  "let q be and(x alike 1 by 2, x <= y)", "kept", "set y 8", "set", "names", "p, q",
                  "which q for x", "by 2: 1 up to 7", "which q for y", "none", "set x 5", "set",
                  "which q for y", "by 1: 0 from 5 on", "clear x", "clear", "which q for x", "by 2: 1 up to 7",
                  "drop p", "dropped", "names", "q", "drop q", "dropped", "names", "nothing")

    def test_show(self):
        for text, asked in (("x=y", "and(x - y >= 0, -x + y >= 0)"), ("  2 * x<=y+ 3 ", "-2*x + y + 3 >= 0"),
                            ("and()", "and()"), ("x alike y by 4", "x - y alike 0 by 4"),
                            ("some(x,not(all(y , or(x>=0))))", "some(x, not(all(y, or(x >= 0))))"),
                            ("x - x >= 0", "0 >= 0"), ("x + 7 >= 0", "x + 7 >= 0")):
            self.told("let p be " + text, "kept", "show p", asked, "drop p", "dropped")

    def test_names_rise(self):
        names = ["b", "a", "z9", "z10", "a1", "aa", "x", "names", "let", "set", "be", "for", "none", "nothing",
                 "a0123456"]
        for name in names:
            self.told("let " + name + " be or()", "kept")
        self.told("names", ", ".join(sorted(names)))
        for name in names:
            self.told("show " + name, "or()", "truth " + name, "false", "set " + name + " 1", "set", "clear " + name,
                      "clear", "which " + name + " for " + name, "none", "drop " + name, "dropped")
        self.told("names", "nothing")

    def test_names_alike_but_at_one_sign(self):
        names = ["x", "y", "x1", "x2", "xx", "x10", "x01", "abcdefgh", "abcdefgi", "bbcdefgh"]
        for number, name in enumerate(names):
            self.told("let " + name + " be " + name + " >= " + str(number), "kept", "set " + name + " " + str(number),
                      "set")
        for number, name in enumerate(names):
            self.told("truth " + name, "true", "set " + name + " " + str(number - 1), "set", "truth " + name, "false")
            for other in names[number + 1:]:
                self.told("truth " + other, "true")
        self.told("drop x", "dropped", "truth xx", "false", "clear x1", "clear", "truth x10", "false")
        self.refused("truth x", Unknown)
        self.refused("truth x1", NoValue)

    def test_statements_and_unknowns_are_apart(self):
        self.told("let x be x >= 0", "kept", "set x 4", "set", "truth x", "true", "clear x", "clear", "show x",
                  "x >= 0")
        self.refused("truth x", NoValue)
        self.told("set x 4", "set", "drop x", "dropped", "let y be x >= 4", "kept", "truth y", "true", "names", "y")

    def test_two_desks(self):
        one, other = Desk(), Desk()
        self.assertEqual(one.line("let p be x >= 0"), "kept")
        self.assertEqual(one.line("set x 1"), "set")
        self.assertEqual(other.line("names"), "nothing")
        with self.assertRaises(Unknown):
            other.line("show p")
        self.assertEqual(other.line("let p be x >= 2"), "kept")
        with self.assertRaises(NoValue):
            other.line("truth p")
        self.assertEqual(other.line("set x 1"), "set")
        self.assertEqual([one.line("truth p"), other.line("truth p")], ["true", "false"])
        self.assertEqual(other.line("drop p"), "dropped")
        self.assertEqual(other.line("clear x"), "clear")
        self.assertEqual([one.line("truth p"), one.line("names")], ["true", "p"])

    def test_let_drop_and_let_again(self):
        self.told("let p be x >= 0", "kept")
        self.refused("let p be x >= 1", Known)
        self.refused("let p be x >= 0", Known)
        self.told("show p", "x >= 0", "drop p", "dropped")
        self.refused("drop p", Unknown)
        self.told("let p be x >= 1", "kept", "show p", "x - 1 >= 0")

    def test_set_twice_and_clear(self):
        self.told("clear x", "clear", "set x 1", "set", "set x 2", "set", "let p be x = 2", "kept", "truth p", "true",
                  "clear x", "clear", "clear x", "clear")
        self.refused("truth p", NoValue)
        self.told("set x 2", "set", "truth p", "true", "set x -2", "set", "truth p", "false")

    def test_by_the_values_of_then(self):
        self.told("let p be some(x, and(x >= y, x <= z, 2*x >= 2*y))", "kept", "set y 1", "set", "set z 0", "set",
                  "truth p", "false", "set z 1", "set", "truth p", "true", "which p for z", "by 1: 0 from 1 on",
                  "which p for y", "by 1: 0 up to 1", "set y -6", "set", "which p for z", "by 1: 0 from -6 on",
                  "which p for x", "by 1: 0 all", "set z -7", "set", "which p for x", "none", "clear y", "clear",
                  "which p for y", "by 1: 0 up to -7")
        self.refused("which p for z", NoValue)
        self.refused("which p for x", NoValue)
        self.refused("truth p", NoValue)

    def test_a_value_of_the_unknown_is_not_looked_at(self):
        self.told("let p be x >= 3", "kept", "which p for x", "by 1: 0 from 3 on", "set x 0", "set",
                  "which p for x", "by 1: 0 from 3 on", "truth p", "false")

    def test_texts(self):
        self.told("let p be  x >= 0", "kept", "let q be x >= 0  ", "kept", "let r be     and()   ", "kept", "names",
                  "p, q, r")
        long = "x >= 0" + " " * 1994
        self.told("let s be " + long, "kept", "show s", "x >= 0", "let u be x >= " + "9" * 60, "kept")
        deep = "not(" * 16 + "x >= 0" + ")" * 16
        self.told("let w be " + deep, "kept", "show w", deep)
        for text, asked in (("", NoText), (" ", NoText), ("x", NoText), ("x >= 0 x", NoText), ("x > 0", NoText),
                            ("x >= 0\n", NoText), ("X >= 0", NoText), ("x >= 01", NoText), ("let a be x >= 0", NoText),
                            ("and >= 0", NoText), ("abcdefghi >= 0", NoText), ("x alike 0 by 0", NoText),
                            ("x >= 0\u00e4", NoText), ("x >= \u0663", NoText), ("\t", NoText), ("be x >= 0", NoText),
                            (long + " ", TooLong), ("9" * 61, TooLong), ("(" * 17, TooLong), ("?" * 2001, TooLong),
                            ("not(" + deep + ")", TooLong), ("x >= " + "9" * 61, TooLong)):
            self.refused("let a be " + text, asked)
            self.refused("let p be " + text, Known)
            self.refused("let and be " + text, NoLine)

    def test_numbers(self):
        self.told("let p be x = y", "kept")
        for text, number in (("0", 0), ("-0", 0), ("7", 7), ("-7", -7), ("10", 10), ("9" * 60, 10 ** 60 - 1),
                             ("-" + "9" * 60, 1 - 10 ** 60), ("-" + "1" + "0" * 59, -10 ** 59)):
            self.told("set x " + text, "set", "which p for y", f"by 1: 0 from {number} to {number}")
        for text in ("", "-", "00", "01", "-00", "-01", "+1", "--1", "1-", "- 1", "1 ", " 1", "9" * 61, "-" + "9" * 61,
                     "0" * 60, "1" + "0" * 60, "x", "1x", "1.0", "1_0", "1e3", "\u0661", "0x1", "1\n", "\u00b2",
                     "-\u0661", "9" * 5000, "1,000", "=1", "\u22121"):
            self.refused("set x " + text, NoLine)
            self.refused("set z " + text, NoLine)

    def test_no_lines(self):
        self.told("let p be x >= 0", "kept", "let x be x >= 1", "kept", "set x 3", "set")
        for line in ("", " ", "  ", "p", "x >= 0", "let", "let ", "let p", "let q ", "let q be", "let q  be x >= 0",
                     "let  q be x >= 0", " let q be x >= 0", "let q be\tx >= 0", "let q is x >= 0", "let be x >= 0",
                     "let q BE x >= 0", "Let q be x >= 0", "lets q be x >= 0", "let\tq be x >= 0", "let q x be x >= 0",
                     "let q be\n", "drop", "drop ", "drop p ", " drop p", "drop  p", "drop p x", "drop p\n", "Drop p",
                     "DROP p", "drops p",
                     "drop\tp", "dropp", "set", "set x", "set x ", "set x 1 2", "set x  1", " set x 1", "set  x 1",
                     "set x 1 ", "set 1 x", "set x to 1", "set x 1\n", "clear", "clear ", "clear x ", "clear x y",
                     "clear  x", " clear x", "clear x 1",
                     "show", "show ", "show p ", "show  p", " show p", "show p x", "truth", "truth ", "truth p ",
                     "truth  p", " truth p", "truth p x", "truth p for x", "which", "which p", "which p ",
                     "which p for", "which p for ",
                     "which p for x ", "which p for x y", "which  p for x", "which p  for x", "which p for  x",
                     " which p for x", "which p x", "which p of x", "which p For x", "which for x", "names ", " names",
                     "names p", "Names", "name", "names\n",
                     "show p\n", "truth p\n", "which p for x\n", "quit", "help", "true", "nothing", "let p be"):
            self.refused(line, NoLine)

    def test_names_that_are_none(self):
        self.told("let p be x >= 0", "kept")
        for name in ("and", "or", "not", "some", "all", "alike", "by", "", "1", "1x", "X", "xY", "x_", "abcdefghi",
                     "x-", "x.", "\u00e4", "x\u00e4", "x\u0661", "x\t", "\u0430", "x,", "(x)", "x\n", "p" * 5000):
            for line in ("let {} be x >= 0", "let {} be ?", "let {} be " + "9" * 61, "drop {}", "set {} 1", "clear {}",
                         "show {}", "truth {}", "which {} for x", "which p for {}", "which q for {}"):
                self.refused(line.format(name), NoLine)

    def test_the_order_of_refusals(self):
        great = "some(x, 961*x >= y)"
        deep = "some(a, some(b, some(x, x + a + b >= 0)))"
        self.told("let g be " + great, "kept", "let d be " + deep, "kept", "let e be some(z, 241*z >= x)", "kept",
                  "let f be some(a, x + a >= y)", "kept", "let h be some(a, some(b, x + a >= b))", "kept",
                  "let i be and(" + ", ".join(["y >= 0"] * 41) + ")", "kept",
                  "let j be and(" + ", ".join(["y >= 0"] * 31) + ")", "kept")
        self.refused("let g be ?", Known)
        self.refused("let g be " + "9" * 61, Known)
        self.refused("let g be x >= 0", Known)
        self.refused("let n be ?", NoText)
        self.refused("let n be ?" + "9" * 61, TooLong)
        self.refused("truth g", TooGreat)
        self.refused("which g for x", TooGreat)
        self.refused("which g for y", TooGreat)
        self.refused("truth i", TooGreat)
        self.refused("truth j", NoValue)
        self.refused("which j for x", TooGreat)
        self.told("truth d", "true")
        self.refused("which d for x", TooGreat)
        self.refused("truth e", NoValue)
        self.refused("which e for x", TooGreat)
        self.refused("truth f", NoValue)
        self.refused("which f for x", NoValue)
        self.refused("truth h", NoValue)
        self.refused("which h for x", TooGreat)
        for line in ("drop n", "show n", "truth n", "which n for x", "which n for y", "which x for x", "truth y"):
            self.refused(line, Unknown)
        self.told("set y 1", "set", "set x 1", "set", "truth f", "true", "truth e", "true", "truth h", "true",
                  "which f for y", "by 1: 0 all", "show g", "some(x, 961*x - y >= 0)", "names", "d, e, f, g, h, i, j",
                  "drop g", "dropped", "drop i", "dropped", "names", "d, e, f, h, j")

    def test_great_ones_are_kept_and_shown(self):
        text = "and(" + ", ".join(["x >= 0"] * 190) + ")"
        self.told("let p be " + text, "kept", "show p", text)
        self.refused("truth p", TooGreat)

    def test_which(self):
        for text, asked in (("and(x >= 2, x <= 9, x alike 0 by 3)", "by 3: 0 from 3 to 9"),
                            ("x alike 2 by 3", "by 3: 2 all"), ("or()", "none"), ("and()", "by 1: 0 all"),
                            ("x = 5", "by 1: 0 from 5 to 5"), ("x <= -1", "by 1: 0 up to -1"),
                            ("or(x >= 4, x <= -4)", "by 1: 0 up to -4, 0 from 4 on"),
                            ("or(and(x alike 0 by 2, x >= 0), and(x alike 1 by 2, x <= 0))",
                             "by 2: 0 from 0 on, 1 up to -1"),
                            ("x >= " + "9" * 60, "by 1: 0 from " + "9" * 60 + " on"),
                            ("and(x >= 1" + "0" * 59 + " + 1" + "0" * 59 + ", x <= 2" + "0" * 59 + ")",
                             "by 1: 0 from 2" + "0" * 59 + " to 2" + "0" * 59)):
            self.told("let p be " + text, "kept", "which p for x", asked, "drop p", "dropped")

    def test_by_chance(self):
        chance = random.Random(141)
        done = 0
        while done < 200:
            told = any_deep(chance, ["x", "y"], 1, chance.randrange(1, 5), 2)
            text = tree_of(told).wording()
            values = {"x": chance.randrange(-9, 10), "y": chance.choice([0, 3, -4, 10 ** 59])}
            if fits(("some", "x", told)):
                desk = Desk()
                self.assertEqual(desk.line("let p be " + text), "kept")
                for name, number in values.items():
                    self.assertEqual(desk.line(f"set {name} {number}"), "set")
                self.assertEqual(desk.line("show p"), text)
                self.assertEqual(desk.line("truth p"), "true" if answer(told, values) else "false")
                self.assertEqual(desk.line("which p for x"), written(answers(told, "x", values)))
                done += 1


if __name__ == "__main__":
    unittest.main()
