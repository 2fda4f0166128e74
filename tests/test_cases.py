import itertools
import math
import random
import unittest

from making import (GREAT, NAMES, NO, PLAIN, X, Y, YES, any_atom, any_statement, atom_list, faults, free, kinds, least,
                    rest, some_values, tried, true_for_some, truth)
from sumlaw.cases import cases_of, put_in, taken
from sumlaw.errors import TooGreat
from sumlaw.measure import fits
from sumlaw.sums import sum_of

R = rest(3, 1, x=2)
ATOMS = [X, least(-3, x=-1), least(4, x=3, y=-2), least(-5, x=-4, y=3, a=1), least(1, y=2), least(0), least(-1), R,
         rest(2, 1, x=1), rest(6, 2, x=4, y=3), rest(4, -1, x=-3, a=2), rest(5, 2, y=1), rest(6, 3), rest(6, 4),
         rest(1, 1, x=1), rest(4, 0, x=4)]
MIXED = [YES, NO, ("not", YES), ("and", (X, ("not", R))), ("or", (least(-3, x=-1), R, NO)),
         ("not", ("and", (X, ("or", (R, least(4, x=3, y=-2))), ("not", Y)))),
         ("or", (("and", (least(-2, x=2, y=1), least(5, x=-3))),
                 ("and", (rest(2, 1, x=1), ("not", least(0, x=1, a=1))))))]


def value_of(total, values):
    return total[0] + sum(k * values[name] for name, k in total[1])


def bound_on_cases(told, name):
    """2 n C M + 1, reckoned another way."""
    found = atom_list(told)
    c = math.lcm(*[k for atom in found for one, k in atom[-1][1] if one == name])
    return 2 * len(found) * c * math.lcm(*[atom[1] for atom in found if atom[0] == "rest"]) + 1


def fitting(chance, deep, words, name):
    """A plain statement by chance whose some of the name fits with 1 more."""
    while True:
        told = any_statement(chance, deep, words)
        if fits(("some", name, told), 1):
            return told


class PutIn(unittest.TestCase):
    def assert_put(self, told, name, top, bottom, valueses):
        """All that is promised of a term put in; tells which values bottom divides."""
        got = put_in(told, name, top, bottom)
        asked = (told, name, top, bottom)
        self.assertEqual(faults(got), [], asked)
        self.assertLessEqual(kinds(got), {tuple, str, int})
        self.assertLessEqual(free(got), (free(told) - {name}) | {one for one, k in top[1]}, asked)
        seen = []
        for values in valueses:
            others = {one: number for one, number in values.items() if one != name}
            quotient, left = divmod(value_of(top, others), bottom)
            true = left == 0 and truth(told, {**others, name: quotient})
            self.assertIs(truth(got, others), true, (asked, others))
            seen.append((left == 0, true))
        return set(seen)

    def test_each_atom_and_more(self):
        tops = [(0, ()), (7, ()), (-8, ()), sum_of(0, [("y", 1)]), sum_of(-5, [("a", -2), ("y", 3)]),
                sum_of(3, [("b", 6)])]
        valueses = [{"a": a, "b": 1 - a, "y": y} for a in range(-3, 3) for y in range(-7, 8)]
        seen = set()
        for told in ATOMS + MIXED:
            for top, bottom in itertools.product(tops, (1, 2, 3, 4, 6)):
                seen |= self.assert_put(told, "x", top, bottom, valueses)
                seen |= self.assert_put(("not", told), "x", top, bottom, valueses)
        self.assertEqual(seen, {(False, False), (True, False), (True, True)})

    def test_bottom_has_to_divide_also_where_nothing_has_the_name(self):
        for told in (YES, least(3, y=1), rest(2, 0, y=1), ("not", rest(2, 0, y=1)), ("or", (YES, X)),
                     rest(1, 0, x=1), rest(3, 3, x=3), ("or", (X, least(-1, x=-1)))):
            for bottom in (2, 3, 12):
                valueses = [{"b": b, "y": y} for b in range(-9, 10) for y in range(-4, 14)]
                self.assert_put(told, "x", sum_of(0, [("b", 4), ("y", 1)]), bottom, valueses)
                seen = self.assert_put(told, "x", sum_of(1, [("b", 1)]), bottom, valueses)
                self.assertIn((False, False), seen)
                self.assertIn((True, True), seen)
        for told in (YES, least(0), ("or", (YES, X)), rest(1, 0, x=1)):
            for bottom in (1, 2, 7, GREAT):
                self.assertEqual(put_in(told, "x", (3 * bottom, ()), bottom), YES)
                if bottom > 1:
                    self.assertEqual(put_in(told, "x", (3 * bottom + 1, ()), bottom), NO)
                    self.assertEqual(put_in(told, "x", (-1, ()), bottom), NO)

    def test_the_name_itself_and_others(self):
        """x within a statement with other names that look like it, and a top with the names of the statement."""
        told = ("and", (least(2, x=2, x1=-1, xx=1), ("not", rest(3, 0, x=1, x1=1, xx=2))))
        for bottom in (1, 2, 5):
            top = sum_of(1, [("x1", 3), ("xx", -2)])
            valueses = [{"x1": one, "xx": other, "x": 5} for one in range(-6, 7) for other in range(-6, 7)]
            self.assert_put(told, "x", top, bottom, valueses)
        self.assertEqual(put_in(told, "zz", sum_of(0, [("q", 1)]), 1),
                         ("and", (told[1][0], ("not", rest(3, 0, x=1, x1=1, xx=2)))))

    def test_great_numbers(self):
        tops = [(GREAT, ()), (-6 * GREAT, ()), sum_of(-GREAT, [("y", GREAT)]), sum_of(1, [("y", 2), ("a", -GREAT)])]
        tolds = [least(-GREAT, x=GREAT - 1, y=3), least(1, x=-GREAT), rest(GREAT, 2, x=GREAT - 5, y=1),
                 rest(6, 0, x=GREAT, y=-GREAT), ("not", rest(2 * GREAT, GREAT, x=3 * GREAT)), ("not", X)]
        for told, top, bottom in itertools.product(tolds, tops, (1, 2, GREAT - 1, GREAT)):
            numbers = (-GREAT, -1, 0, 1, 2, GREAT, GREAT * GREAT)
            self.assert_put(told, "x", top, bottom, [{"y": y, "a": a} for y in numbers for a in numbers])

    def test_many_by_chance(self):
        chance = random.Random(61)
        seen = []
        for turn in range(1200):
            told = any_statement(chance, 4, PLAIN)
            name = chance.choice(NAMES)
            others = [one for one in NAMES if one != name]
            top = sum_of(chance.randrange(-9, 10),
                         [(one, chance.randrange(-4, 5)) for one in chance.sample(others, chance.randrange(4))])
            bottom = chance.choice([1, 1, 2, 3, 4, 6, 12])
            seen.append(self.assert_put(told, name, top, bottom, some_values(chance, 12)))
        for kind in ((False, False), (True, False), (True, True)):
            self.assertGreater(sum(kind in one for one in seen), 400)

    def test_sizes(self):
        told = ("or", tuple(("and", (least(-place, x=place + 1, y=-1), ("not", rest(place + 2, 1, x=GREAT, a=1))))
                            for place in range(500)))
        valueses = [{"a": a, "y": y} for a in (-3, 0, 4) for y in (-GREAT, 1, 2, GREAT)]
        self.assert_put(told, "x", sum_of(2, [("y", 1)]), 3, valueses)
        for deep in (20, 40):
            told = X
            for turn in range(deep):
                told = (("and", (told, least(turn, x=1, a=turn))), ("not", told), ("or", (told, R)))[turn % 3]
            self.assert_put(told, "x", sum_of(2, [("y", 1)]), 2, valueses)

    def test_what_was_told_with_numbers_of_any_size(self):
        huge = 10 ** 9000
        got = put_in(least(1, x=2, y=3), "x", sum_of(huge, [("y", 1)]), 4)
        self.assert_put(got, "y", (huge * huge, ()), 7, [{}])
        self.assert_put(got, "y", sum_of(huge, [("x", -1)]), 1, [{"x": x} for x in (-huge, 0, 3, huge, huge + 4)])


class Cases(unittest.TestCase):
    """What the tests of cases and of taking out have in common."""

    def about(self, told, name):
        names = sorted((free(told) | {"y"}) - {name})
        far = {1: 12, 2: 5, 3: 2}.get(len(names), 1)
        return [dict(zip(names, numbers)) for numbers in itertools.product(range(-far, far + 1), repeat=len(names))]

    def assert_refused(self, function, told, name, asked):
        if not asked:
            function(told, name)
            return
        with self.assertRaises(TooGreat) as caught:
            function(told, name)
        self.assertIs(type(caught.exception), TooGreat)
        self.assertIsNone(caught.exception.__cause__ or caught.exception.__context__)

    def assert_edges(self, function):
        """TooGreat just where the load of the some goes above 240."""
        for told, name, asked in (
                (least(0, x=240), "x", False), (least(0, x=241), "x", True), (least(0, x=-240), "x", False),
                (least(GREAT, x=-241, y=1), "x", True), (least(0, x=241, y=GREAT), "y", True),
                (least(0, x=GREAT, y=240), "y", False), (rest(240, 1, x=7), "x", True),
                (rest(240, 1, x=1), "x", False), (rest(241, 1, x=1), "x", True), (rest(240, 1, y=7), "x", False),
                (rest(241, 1, y=7), "x", True), (rest(241, 0), "x", True), (rest(120, 1, x=2), "x", False),
                (rest(121, 1, x=2), "x", True), (rest(GREAT, 1, x=1), "x", True),
                (("and", (X,) * 15), "x", False), (("and", (X,) * 16), "x", True), (("or", (Y,) * 15), "x", False),
                (("or", (Y,) * 16), "x", True), (("not", ("and", (least(-1),) * 16)), "x", True),
                (("and", (X,) * 40), "x", True), (("and", (Y,) * 41), "x", True), (("and", (X,) * 1000), "x", True),
                (("and", (YES,) * 100), "x", False), (("and", (least(0, x=5), least(1, x=-12))), "x", False),
                (("and", (least(0, x=4), least(1, x=-15))), "x", False),
                (("and", (least(0, x=61), least(1, y=1))), "x", True),
                (("and", (least(0, x=60), least(1, y=1))), "x", False),
                (("or", (rest(4, 0, x=1), ("not", rest(15, 1, x=1)))), "x", False),
                (("or", (rest(4, 0, x=1), ("not", rest(16, 1, x=1)))), "x", False),
                (("or", (rest(7, 0, x=1), ("not", rest(9, 1, x=1)))), "x", True),
                (("or", (rest(7, 0, x=1), ("not", rest(9, 1, y=1)))), "x", True),
                (("and", (least(0, x=6), rest(10, 1, x=1, y=1))), "x", False),
                (("and", (least(0, x=6), rest(11, 1, y=1))), "x", True)):
            for one in (told, ("not", told), ("or", (NO, told)), ("and", (("not", told),))):
                self.assertIs(fits(("some", name, one), 1), not asked)
                self.assert_refused(function, one, name, asked)


class CasesOf(Cases):
    def assert_right(self, told, name, valueses):
        cases = cases_of(told, name)
        self.assertIs(type(cases), list)
        self.assertLessEqual(len(cases), bound_on_cases(told, name), (told, name))
        names = free(told) - {name}
        for case in cases:
            guard, top, bottom = case
            self.assertIs(type(case), tuple)
            self.assertEqual(faults(guard), [], (told, name))
            self.assertNotEqual(guard, NO)
            self.assertLessEqual(free(guard) | {one for one, k in top[1]}, names, (told, name))
            self.assertEqual(top, sum_of(top[0], list(top[1])))
            self.assertIs(type(bottom), int)
            self.assertGreaterEqual(bottom, 1)
        seen = set()
        for values in valueses:
            true = [case for case in cases if truth(case[0], values)]
            for guard, top, bottom in true:
                quotient, left = divmod(value_of(top, values), bottom)
                self.assertEqual(left, 0, (told, name, values, top, bottom))
                self.assertTrue(truth(told, {**values, name: quotient}), (told, name, values, top, bottom))
            self.assertIs(true != [], true_for_some(told, name, values), (told, name, values))
            seen.add(true != [])
        return seen

    def test_each_kind(self):
        low, high = least(3, x=2, y=1), least(4, x=-3, y=2)
        odd, third = rest(2, 1, x=1), rest(3, 0, x=2, y=1)
        for told in ATOMS + MIXED + [
                ("and", (low, X)), ("and", (high, least(-3, x=-1))), ("and", (low, high)), ("or", (low, high)),
                ("and", (low, odd)), ("and", (high, third, odd)), ("and", (odd, third)), ("or", (odd, third)),
                ("and", (low, high, ("not", odd), third)), ("not", ("or", (low, high))), ("not", ("and", (low, odd))),
                ("and", (("not", low), ("not", X))), ("and", (low, least(-4, x=-2, y=-1))),
                ("and", (odd, ("not", odd))),
                ("and", (Y, rest(3, 1, y=1))), ("or", (Y, low)), ("and", (Y, low, high)), ("and", ()), ("or", ()),
                ("and", (YES, low)), ("and", (NO, low)), ("and", (least(-1, x=2), least(1, x=-2))),
                ("and", (least(-1, x=4, y=-1), least(2, x=-4, y=1), rest(5, 2, x=2))),
                ("or", (("and", (low, high)), ("and", (least(5, x=1), odd)))),
                ("or", (("and", (odd, Y)), ("not", ("or", (high, third)))))]:
            for one in (told, ("not", told), ("and", (told,)), ("or", (told, NO))):
                for name in ("x", "y", "zz"):
                    if fits(("some", name, one), 1):
                        self.assert_right(one, name, self.about(one, name))

    def test_nothing_and_anything(self):
        for told in (NO, least(-1), ("and", (X, NO)), ("and", (X, least(-1, x=-1))),
                     ("and", (rest(2, 0, x=1), rest(2, 1, x=1))), rest(4, 1, x=2)):
            self.assertEqual([case[0] for case in cases_of(told, "x") if truth(case[0], {})], [], told)
        self.assertEqual(cases_of(NO, "x"), [])
        cases = cases_of(YES, "x")
        self.assertEqual(len(cases), 1)
        self.assertEqual(cases[0][0], YES)

    def test_far_out(self):
        """Where only very great or very small numbers do it."""
        for told in (least(-GREAT, x=1), least(-GREAT, x=-1), ("and", (least(-GREAT, x=1), least(GREAT + 1, x=-1))),
                     ("and", (least(-GREAT, x=1), least(GREAT + 3, x=-1), rest(4, GREAT + 3, x=-1))),
                     ("and", (least(0, x=3, y=-1), least(1, x=-3, y=1), rest(5, 3, x=1))),
                     ("and", (least(GREAT, x=-4, y=GREAT), ("not", rest(3, 1, x=1)), ("not", rest(3, 2, x=1))))):
            numbers = [-GREAT, -GREAT + 1, -7, 0, 2, 9, GREAT, GREAT + 1, GREAT + 2, GREAT ** 3, 15 * GREAT + 6]
            seen = self.assert_right(told, "x", [{"y": y} for y in numbers])
            self.assertIn(True, seen)

    def test_many_by_chance(self):
        chance = random.Random(62)
        seen = []
        for turn in range(800):
            told = fitting(chance, 3, PLAIN, "x")
            seen.append(self.assert_right(told, "x", some_values(chance, 8)))
        self.assertGreater(seen.count({True, False}), 50)
        self.assertGreater(seen.count({False}), 50)

    def test_many_narrow_ones_by_chance(self):
        """Ands of bounds near one another with rests, so that often no number does it."""
        chance = random.Random(63)
        seen = []
        for turn in range(600):
            parts = []
            for sign in (1, -1, 1, -1)[:chance.randrange(1, 5)]:
                pairs = [("x", sign * chance.randrange(1, 4)), ("y", chance.randrange(-3, 4))]
                parts.append(("least", sum_of(chance.randrange(-3, 4), pairs)))
            for turn in range(chance.randrange(2)):
                part = ("rest", chance.randrange(2, 5), sum_of(chance.randrange(4), [("x", chance.randrange(1, 4))]))
                parts.append(part if chance.randrange(2) else ("not", part))
            told = ("and", tuple(parts))
            if fits(("some", "x", told), 1):
                seen.append(self.assert_right(told, "x", [{"y": y} for y in range(-12, 13)]))
        self.assertGreater(seen.count({True, False}), 100)

    def test_at_the_edge(self):
        chance = random.Random(64)
        fifteen = [any_atom(chance) for turn in range(200)]
        fifteen = [atom for atom in fifteen if atom[0] == "least" and abs(dict(atom[1][1]).get("x", 0)) < 2][:15]
        for told in (least(3, x=240, y=1), least(3, x=-240, y=7), rest(240, 3, x=1, y=1), ("not", rest(240, 3, x=1)),
                     rest(120, 4, x=2, y=2), ("and", (least(1, x=60, y=1), least(0, x=-60))),
                     ("and", (least(1, x=20, y=1), least(-4, x=-15, y=2))), ("and", tuple(fifteen)),
                     ("and", (least(1, x=6, y=5), rest(10, 3, x=1, y=1))),
                     ("or", (("and", tuple(fifteen[:8])), ("not", ("or", tuple(fifteen[8:]))))),
                     ("and", (least(1, x=2, y=1), least(5, x=-3, y=2), ("not", rest(4, 1, x=1))))):
            self.assert_right(told, "x", some_values(chance, 6))

    def test_a_new_list_each_time(self):
        told = ("and", (least(3, x=2, y=1), least(4, x=-3, y=2), rest(2, 1, x=1)))
        first = cases_of(told, "x")
        kept = list(first)
        first.reverse()
        first.append(None)
        second = cases_of(told, "x")
        self.assertEqual(second, kept)
        second.clear()
        self.assertEqual(cases_of(told, "x"), kept)

    def test_refused(self):
        self.assert_edges(cases_of)


class Taken(Cases):
    def assert_taken(self, told, name, valueses):
        got = taken(told, name)
        self.assertEqual(faults(got), [], (told, name))
        self.assertLessEqual(kinds(got), {tuple, str, int})
        self.assertLessEqual(free(got), free(told) - {name}, (told, name))
        seen = set()
        for values in valueses:
            true = true_for_some(told, name, values)
            self.assertIs(truth(got, values), true, (told, name, values))
            seen.add(true)
        return seen

    def test_each_kind(self):
        for told in ATOMS + MIXED:
            for one in (told, ("not", told), ("and", (Y, told, least(2, a=1))), ("or", (("and", (told, Y)), R))):
                for name in ("x", "y", "zz"):
                    if fits(("some", name, one), 1):
                        self.assert_taken(one, name, self.about(one, name))

    def test_by_hand(self):
        for told, true_for in (
                (("and", (least(0, x=2, y=-1), least(0, x=-2, y=1))), range(-20, 21, 2)),
                (("and", (least(0, x=3, y=-1), least(1, x=-3, y=1))), [y for y in range(-20, 21) if y % 3 != 1]),
                (("and", (least(-2, x=1), least(0, x=-1, y=1), rest(5, 1, x=1))), range(4, 21)),
                (("and", (least(0, x=1), least(0, x=-1, y=1), rest(2, 0, x=1, y=1), rest(3, 1, x=1))),
                 [y for y in range(0, 21) if any((x + y) % 2 == 0 and x % 3 == 2 for x in range(y + 1))]),
                (("not", ("or", (least(0, x=1, y=1), least(5, x=-1, y=1)))), range(-20, -3)),
                (("or", (X, Y)), range(-20, 21)), (("and", (X, Y)), range(0, 21)), (NO, []), (YES, range(-20, 21))):
            got = taken(told, "x")
            self.assertEqual(faults(got), [])
            self.assertEqual([y for y in range(-20, 21) if truth(got, {"y": y})],
                             [y for y in range(-20, 21) if y in true_for], told)

    def test_far_out(self):
        for told, asked in ((least(-GREAT, x=1), True), (least(-GREAT, x=-1), True),
                            (("and", (least(-GREAT, x=1), least(GREAT - 1, x=-1))), False),
                            (("and", (least(-GREAT, x=1), least(GREAT, x=-1))), True),
                            (("and", (least(-GREAT, x=1), least(GREAT + 2, x=-1), rest(4, GREAT + 3, x=-1))), False),
                            (("and", (least(-GREAT, x=1), least(GREAT + 3, x=-1), rest(4, GREAT + 3, x=-1))), True),
                            (("and", (least(-GREAT, x=-1), rest(7, 3, x=2))), True)):
            self.assertIs(truth(taken(told, "x"), {}), asked, told)
        told = ("and", (least(0, x=3, y=-1), least(1, x=-3, y=1), rest(5, 3, x=1)))
        numbers = [15 * place + y for place in (-GREAT, 0, GREAT) for y in range(15)]
        self.assertEqual(self.assert_taken(told, "x", [{"y": y} for y in numbers]), {True, False})

    def test_many_by_chance(self):
        chance = random.Random(65)
        seen = []
        for turn in range(800):
            told = fitting(chance, 3, PLAIN, "x")
            seen.append(self.assert_taken(told, "x", some_values(chance, 8)))
        self.assertGreater(seen.count({True, False}), 50)

    def test_one_name_after_another(self):
        """What was taken out may be handed in, and then again, as long as it fits."""
        chance = random.Random(66)
        done = 0
        for turn in range(300):
            told = fitting(chance, 2, PLAIN, "x")
            inner = taken(told, "x")
            if fits(("some", "y", inner), 1):
                done += self.assert_taken(inner, "y", some_values(chance, 4)) != set()
            else:
                self.assert_refused(taken, inner, "y", True)
        self.assertGreater(done, 150)

    def test_refused(self):
        self.assert_edges(taken)


class Tried(unittest.TestCase):
    """That what the tests reckon with misses no number."""

    def test_against_all_numbers_about_nought(self):
        chance = random.Random(67)
        for turn in range(300):
            told = any_statement(chance, 3, PLAIN)
            values = {name: chance.randrange(-2, 3) for name in NAMES}
            far = any(truth(told, {**values, "x": x}) for x in range(-150, 151))
            self.assertIs(true_for_some(told, "x", values), far, told)
            self.assertLessEqual(len(tried(told, "x", values)), 20000)


if __name__ == "__main__":
    unittest.main()
