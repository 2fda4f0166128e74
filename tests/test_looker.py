import random
import unittest

from making import (GREAT, NAMES, NO, PLAIN, X, Y, YES, any_statement, least, rest, some_values, true_for_some, truth)
from sumlaw.cases import cases_of, put_in
from sumlaw.errors import TooGreat
from sumlaw.looker import looked
from sumlaw.measure import fits
from sumlaw.sums import sum_of

LOW, HIGH, ODD = least(3, x=2, y=1), least(4, x=-3, y=2), rest(2, 1, x=1)
TOLDS = [X, least(-3, x=-1), LOW, HIGH, ODD, rest(6, 2, x=4, y=3), Y, YES, NO, ("and", (LOW, HIGH)), ("or", (LOW, Y)),
         ("and", (LOW, HIGH, ODD)), ("not", ("or", (LOW, ODD))), ("and", (Y, ODD)), ("not", ("and", (X, HIGH))),
         ("or", (("and", (LOW, ODD)), ("and", (HIGH, ("not", ODD)))))]
ABOUT = [{"y": y} for y in range(-12, 13)]


def right(told, name, cases, valueses):
    """Whether cases are right at these values, reckoned from what is asked of them alone."""
    for values in valueses:
        true = [case for case in cases if truth(case[0], values)]
        for guard, top, bottom in true:
            quotient, left = divmod(top[0] + sum(k * values[one] for one, k in top[1]), bottom)
            if left or not truth(told, {**values, name: quotient}):
                return False
        if not true and true_for_some(told, name, values):
            return False
    return True


def changed(cases):
    """Cases that are like these, but for one thing."""
    for place, (guard, top, bottom) in enumerate(cases):
        before, after = cases[:place], cases[place + 1:]
        c, pairs = top
        yield before + after
        yield before + [(guard, (c + 1, pairs), bottom)] + after
        yield before + [(guard, (c - 1, pairs), bottom)] + after
        yield before + [(guard, sum_of(c, list(pairs) + [("y", 1)]), bottom)] + after
        yield before + [(guard, (-c, pairs), bottom)] + after
        yield before + [(guard, top, bottom + 1)] + after
        yield before + [(guard, top, 1)] + after
        for other in (YES, NO, ("not", guard), ("or", (guard, Y)), ("and", (guard, Y)),
                      ("and", (guard, rest(2, 0, y=1))), ("or", (guard, rest(3, 0, y=1)))):
            yield before + [(other, top, bottom)] + after
            yield cases + [(other, top, bottom)]
        for other in cases[:3]:
            yield before + [(other[0], top, bottom)] + after
            yield before + [(guard, other[1], other[2])] + after


class Looked(unittest.TestCase):
    def assert_not_true_where_wrong(self, told, name, cases, valueses):
        kept = list(cases)
        says = looked(told, name, cases)
        self.assertIs(type(says), bool)
        self.assertEqual(cases, kept)
        if not right(told, name, cases, valueses):
            self.assertIs(says, False, (told, name, cases))
            return 1
        return 0

    def test_true_of_what_cases_of_tells(self):
        for told in TOLDS:
            for one in (told, ("not", told), ("and", (told, YES))):
                for name in ("x", "y", "zz"):
                    if fits(("some", name, one), 1):
                        self.assertIs(looked(one, name, cases_of(one, name)), True, (one, name))

    def test_true_of_what_cases_of_tells_by_chance(self):
        chance = random.Random(71)
        done = 0
        while done < 500:
            told = any_statement(chance, 3, PLAIN)
            name = chance.choice(NAMES)
            if fits(("some", name, told), 1):
                cases = cases_of(told, name)
                kept = list(cases)
                self.assertIs(looked(told, name, cases), True, told)
                self.assertEqual(cases, kept)
                done += 1

    def test_true_at_the_edge(self):
        for told in (least(GREAT, x=240, y=1), least(3, x=-240, y=GREAT), rest(240, 3, x=1, y=GREAT),
                     ("and", (least(1, x=60, y=1), least(0, x=-60))),
                     ("and", tuple(least(place, x=(-1) ** place, y=place + 2) for place in range(15)))):
            self.assertIs(looked(told, "x", cases_of(told, "x")), True)

    def test_by_hand(self):
        """Cases that are wrong in the first half, or in the second."""
        both = ("and", (least(0, x=2, y=-1), least(0, x=-2, y=1)))
        half = sum_of(0, [("y", 1)])
        even = rest(2, 0, y=1)
        for told, cases in (
                (X, []), (YES, []), (ODD, []), (ODD, [(YES, (0, ()), 1)]), (X, [(YES, (-1, ()), 1)]),
                (X, [(Y, (0, ()), 1)]), (X, [(NO, (0, ()), 1)]), (X, [(YES, (1, ()), 2)]), (NO, [(YES, (0, ()), 1)]),
                (NO, [(Y, (0, ()), 1)]), (both, []), (both, [(YES, half, 2)]), (both, [(rest(4, 0, y=1), half, 2)]),
                (both, [(even, half, 1)]), (both, [(even, sum_of(1, [("y", 1)]), 2)]), (both, [(even, half, 4)]),
                (both, [(rest(2, 1, y=1), half, 2)]), (both, [(("and", (even, Y)), half, 2)]),
                (both, [(even, half, 2), (Y, half, 2)]), (both, [(even, half, 2), (rest(2, 1, y=1), half, 2)]),
                (both, [(NO, half, 2)])):
            self.assertFalse(right(told, "x", cases, ABOUT))
            self.assertIs(looked(told, "x", cases), False, (told, cases))
            doubled = cases + cases
            self.assertIs(looked(told, "x", doubled), False)

    def test_wrong_far_out_alone(self):
        """Cases that are right at all small values."""
        far = least(-GREAT, y=1)
        top = sum_of(-3, [("y", -1)])
        told = least(3, x=1, y=1)
        self.assertIs(looked(told, "x", [(("not", far), top, 1)]), False)
        self.assertIs(looked(told, "x", [(least(GREAT, y=1), top, 1)]), False)
        self.assertIs(looked(NO, "x", [(far, top, 1)]), False)
        self.assertIs(looked(("and", (least(0, x=1), least(-1, x=-1))), "x", [(rest(GREAT, 1, y=1), top, 1)]), False)

    def test_changed_cases(self):
        wrong = 0
        for told in TOLDS:
            cases = cases_of(told, "x")
            for other in changed(cases):
                wrong += self.assert_not_true_where_wrong(told, "x", other, ABOUT)
            never = [(NO,) + case[1:] for case in cases]
            for other in ([], cases[::-1], cases + cases, cases[:1], cases[1:], cases[::2], never,
                          cases + [(NO, (5, ()), 7)], [(NO, (5, ()), 7)], [(YES, (0, ()), 1)]):
                wrong += self.assert_not_true_where_wrong(told, "x", other, ABOUT)
        self.assertGreater(wrong, 500)

    def test_cases_of_another_statement(self):
        wrong = 0
        for one in TOLDS:
            for other in TOLDS:
                wrong += self.assert_not_true_where_wrong(one, "x", cases_of(other, "x"), ABOUT)
        self.assertGreater(wrong, 100)

    def test_changed_cases_by_chance(self):
        chance = random.Random(72)
        wrong = 0
        for turn in range(150):
            told = any_statement(chance, 2, PLAIN)
            if fits(("some", "x", told), 1):
                cases = cases_of(told, "x")[:40]
                others = list(changed(cases))
                for other in chance.sample(others, min(len(others), 12)):
                    wrong += self.assert_not_true_where_wrong(told, "x", other, some_values(chance, 10))
        self.assertGreater(wrong, 200)

    def test_terms_of_any_kind(self):
        """Guards that fit their terms, and terms with great numbers and with names from elsewhere."""
        for told in TOLDS:
            for top, bottom in (((GREAT, ()), 1), ((-GREAT, ()), GREAT), (sum_of(2, [("y", GREAT)]), 5),
                                (sum_of(0, [("y", 1)]), GREAT), (sum_of(1, [("q", 3)]), 2)):
                guard = put_in(told, "x", top, bottom)
                valueses = [{"y": y, "q": q} for y in range(-12, 13) for q in (0, 1, 3)]
                self.assert_not_true_where_wrong(told, "x", [(guard, top, bottom)], valueses)
                self.assert_not_true_where_wrong(told, "x", cases_of(told, "x") + [(guard, top, bottom)], valueses)
                self.assert_not_true_where_wrong(told, "x", [(YES, top, bottom)] + cases_of(told, "x"), valueses)

    def test_two_thousand_cases(self):
        told = ("and", tuple(least(place, x=(-1) ** place, y=place + 2) for place in range(15)))
        cases = (cases_of(told, "x") * 2000)[:2000]
        self.assertIs(type(looked(told, "x", cases)), bool)
        great = ("and", tuple(least(-GREAT, y=place + 1) for place in range(1000)))
        self.assertIs(looked(told, "x", [(great, (0, ()), 1)] * 2000), False)

    def test_refused(self):
        for told, asked in ((least(0, x=240), False), (least(0, x=241), True), (rest(240, 1, y=1), False),
                            (rest(241, 1, y=1), True), (("and", (X,) * 15), False), (("and", (X,) * 16), True),
                            (("or", (Y,) * 41), True), (rest(241, 0), True)):
            for cases in ([], [(NO, (0, ()), 1)], [(YES, (0, ()), 1)], [(Y, sum_of(GREAT, [("y", 1)]), GREAT)]):
                kept = list(cases)
                if not asked:
                    self.assertIs(type(looked(told, "x", cases)), bool)
                else:
                    with self.assertRaises(TooGreat) as caught:
                        looked(told, "x", cases)
                    self.assertIs(type(caught.exception), TooGreat)
                    self.assertIsNone(caught.exception.__cause__ or caught.exception.__context__)
                self.assertEqual(cases, kept)


if __name__ == "__main__":
    unittest.main()
