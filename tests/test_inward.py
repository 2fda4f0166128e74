import random
import unittest

from making import FULL, GREAT, NAMES, NO, PLAIN, X, Y, YES, any_statement, atom_list, kinds, least, nested, rest, truth
from sumlaw.inward import inward

TURNS = {"and": "or", "or": "and", "some": "all", "all": "some"}
R = rest(3, 1, x=2)


def reckoned(told):
    """Pushed inward another way: the rules for a not, from outside, one at a time."""
    if told[0] in ("least", "rest"):
        return told
    if told[0] in ("and", "or"):
        return (told[0], tuple(reckoned(part) for part in told[1]))
    if told[0] in ("some", "all"):
        return told[:2] + (reckoned(told[2]),)
    part = told[1]
    if part[0] == "least":
        return ("least", (-1 - part[1][0], tuple((name, -k) for name, k in part[1][1])))
    if part[0] == "rest":
        return told
    if part[0] == "not":
        return reckoned(part[1])
    if part[0] in ("and", "or"):
        return (TURNS[part[0]], tuple(reckoned(("not", one)) for one in part[1]))
    return (TURNS[part[0]], part[1], reckoned(("not", part[2])))


def nots_stand_right(told):
    """Whether a not stands only right above a rest."""
    if told[0] == "not":
        return told[1][0] == "rest"
    if told[0] in ("and", "or"):
        return all(nots_stand_right(part) for part in told[1])
    return told[0] in ("least", "rest") or nots_stand_right(told[2])


class Inward(unittest.TestCase):
    def assert_inward(self, told, asked):
        self.assertEqual(inward(told), asked)
        self.assertEqual(inward(asked), asked)
        self.assertEqual(inward(("not", ("not", told))), asked)

    def test_what_stays(self):
        for told in (X, least(0), least(-3, x=2, y=-4), R, rest(1, 9, x=5, y=-6), rest(4, 8, x=4), YES, NO, ("not", R),
                     ("not", rest(1, 0)), ("and", (X,)), ("or", (Y, X, Y, R)), ("and", (YES, ("and", (X, X)), NO)),
                     ("some", "x", X), ("all", "y", X), ("some", "x", ("all", "x", ("or", (("not", R), X))))):
            self.assert_inward(told, told)

    def test_the_not_of_a_least(self):
        for told, asked in ((X, least(-1, x=-1)), (least(0), least(-1)), (least(-1), least(0)), (least(5), least(-6)),
                            (least(-3, x=2, y=-4), least(2, x=-2, y=4)), (least(1, x=1), least(-2, x=-1)),
                            (least(GREAT, x=-GREAT), least(-1 - GREAT, x=GREAT))):
            self.assert_inward(("not", told), asked)

    def test_nots_within_one_another(self):
        for told, turned in ((X, least(-1, x=-1)), (R, ("not", R)), (YES, NO), (NO, YES),
                             (("some", "x", R), ("all", "x", ("not", R)))):
            asked = [told, turned]
            for many in range(12):
                self.assert_inward(told, asked[many % 2])
                told = ("not", told)

    def test_the_not_of_each_kind(self):
        not_x, not_y = least(-1, x=-1), least(-1, y=-1)
        for told, asked in (
                (YES, NO), (NO, YES), (("and", (X,)), ("or", (not_x,))), (("or", (R,)), ("and", (("not", R),))),
                (("and", (Y, X, R, Y)), ("or", (not_y, not_x, ("not", R), not_y))),
                (("or", (Y, X, R, Y)), ("and", (not_y, not_x, ("not", R), not_y))),
                (("and", (("not", X), ("or", (Y, ("not", R))))), ("or", (X, ("and", (not_y, R))))),
                (("and", (YES, NO)), ("or", (NO, YES))), (("or", (("and", ()), X)), ("and", (("or", ()), not_x))),
                (("some", "x", X), ("all", "x", not_x)), (("all", "x", X), ("some", "x", not_x)),
                (("some", "y", ("not", X)), ("all", "y", X)), (("all", "y", ("not", ("not", X))), ("some", "y", not_x)),
                (("some", "x", ("all", "y", ("and", (X, R)))),
                 ("all", "x", ("some", "y", ("or", (not_x, ("not", R)))))),
                (("all", "x", YES), ("some", "x", NO))):
            self.assert_inward(("not", told), asked)

    def test_nots_further_within(self):
        not_x = least(-1, x=-1)
        self.assert_inward(("and", (("not", X), X, ("not", ("and", ())))), ("and", (not_x, X, NO)))
        self.assert_inward(("or", (X, ("not", ("not", ("not", X))), R)), ("or", (X, not_x, R)))
        self.assert_inward(("all", "x", ("not", ("some", "y", X))), ("all", "x", ("all", "y", not_x)))
        self.assert_inward(("some", "x", ("not", ("or", (R, ("all", "x", X))))),
                           ("some", "x", ("and", (("not", R), ("some", "x", not_x)))))

    def test_many_against_another_reckoning(self):
        chance = random.Random(31)
        for turn in range(800):
            told = any_statement(chance, 6, FULL + ["not", "not"])
            got = inward(told)
            self.assertEqual(got, reckoned(told), told)
            self.assertTrue(nots_stand_right(got), told)
            self.assertEqual(inward(got), got)
            self.assertEqual(len(atom_list(got)), len(atom_list(told)))

    def test_as_true_as_before(self):
        chance = random.Random(32)
        for turn in range(500):
            told = any_statement(chance, 5, PLAIN + ["not", "not"])
            got = inward(told)
            for turn in range(4):
                values = {name: chance.choice([-GREAT, -4, -1, 0, 1, 3, 7]) for name in NAMES}
                self.assertIs(truth(got, values), truth(told, values), told)

    def test_kinds_and_sizes(self):
        self.assertEqual(kinds(inward(("not", ("and", (X, ("some", "x", R)))))), {tuple, str, int})
        wide = ("not", ("and", tuple(least(place, x=1) for place in range(1000))))
        self.assertEqual(inward(wide)[0], "or")
        self.assertEqual(inward(wide)[1][999], least(-1000, x=-1))
        for deep in (20, 40):
            told = ("not", nested(deep, R))
            self.assertEqual(inward(told), reckoned(told))


if __name__ == "__main__":
    unittest.main()
