import itertools
import random
import unittest

from making import (FULL, GREAT, NAMES, NO, PLAIN, X, Y, YES, any_deep, any_statement, free, full_truth, is_plain,
                    least, refusal, rest, some_values, truth, within)
from sumlaw.answer import answer
from sumlaw.errors import NoValue, TooGreat
from sumlaw.measure import depth, fits, load
from sumlaw.sums import sum_of

HUGE = 10 ** 9000
EVEN, ODD = rest(2, 0, x=1), rest(2, 1, x=1)


def equal(**names):
    """That a sum is nought."""
    total = sum_of(0, list(names.items()))
    return ("and", (("least", total), ("least", sum_of(0, [(name, -k) for name, k in names.items()]))))


class Answer(unittest.TestCase):
    def assert_answer(self, told, values, asked):
        kept = dict(values)
        self.assertIs(answer(told, values), asked, (told, values))
        self.assertIs(answer(("not", told), values), not asked, (told, values))
        self.assertEqual(list(values.items()), list(kept.items()))

    def test_plain_ones(self):
        for told, asked in ((YES, True), (NO, False), (least(0), True), (least(-1), False), (least(GREAT), True),
                            (rest(3, 6), True), (rest(3, 7), False), (rest(3, -6), True), (rest(3, 0), True),
                            (rest(1, -GREAT), True), (("and", (YES, NO)), False), (("or", (NO, YES)), True),
                            (("and", (("or", ()),)), False), (("or", (("and", ()),)), True)):
            self.assert_answer(told, {}, asked)
            self.assert_answer(told, {"x": GREAT, "zz": -1}, asked)
        for x in range(-9, 10):
            self.assert_answer(X, {"x": x}, x >= 0)
            self.assert_answer(rest(4, 1, x=3), {"x": x}, (3 * x + 1) % 4 == 0)
            self.assert_answer(least(-4, x=3, y=-2), {"x": x, "y": -x}, 5 * x >= 4)
        for great in (GREAT, -GREAT, HUGE, -HUGE):
            self.assert_answer(least(0, x=1, y=-1), {"x": great, "y": great}, True)
            self.assert_answer(least(-1, x=1, y=-1), {"x": great, "y": great}, False)
            self.assert_answer(rest(7, 0, x=1), {"x": great}, great % 7 == 0)

    def test_plain_ones_by_chance(self):
        chance = random.Random(101)
        seen = {True: 0, False: 0}
        for turn in range(800):
            told = any_statement(chance, 4, PLAIN)
            if fits(told):
                for values in some_values(chance, 3):
                    asked = truth(told, values)
                    seen[asked] += 1
                    self.assert_answer(told, values, asked)
        self.assertGreater(min(seen.values()), 500)

    def test_without_free_names(self):
        """Told true or false by hand."""
        over, under = least(-1, y=1, x=-1), least(-1, x=1, y=-1)
        between = ("and", (over, least(-1, z=1, y=-1)))
        for told, asked in (
                (("some", "x", X), True), (("all", "x", X), False), (("some", "x", NO), False),
                (("all", "x", NO), False), (("some", "x", YES), True), (("all", "x", YES), True),
                (("some", "x", least(-1)), False), (("all", "x", least(0)), True),
                (("all", "x", ("or", (EVEN, ODD))), True),
                (("some", "x", ("and", (EVEN, ODD))), False), (("all", "x", EVEN), False),
                (("all", "x", ("not", ("and", (EVEN, ODD)))), True), (("some", "x", rest(6, 1, x=4)), False),
                (("some", "x", rest(6, 2, x=4)), True), (("all", "x", rest(3, 0, x=3)), True),
                (("all", "x", ("or", (X, least(-1, x=-1)))), True), (("all", "x", ("or", (X, least(-2, x=-1)))), False),
                (("some", "x", ("and", (X, least(0, x=-1)))), True),
                (("some", "x", ("and", (X, least(-1, x=-1)))), False),
                (("all", "x", ("some", "y", over)), True), (("some", "y", ("all", "x", over)), False),
                (("all", "x", ("some", "y", equal(x=1, y=-2))), False),
                (("all", "x", ("some", "y", ("or", (equal(x=1, y=-2), ("and", (EVEN,)), rest(2, 1, x=1))))), True),
                (("all", "y", ("some", "x", equal(x=1, y=-2))), True),
                (("all", "x", ("all", "y", ("or", (over, under, equal(x=1, y=-1))))), True),
                (("all", "x", ("all", "y", ("or", (over, under)))), False),
                (("some", "x", ("some", "y", ("and", (over, under)))), False),
                (("all", "x", ("some", "y", ("some", "z", between))), True),
                (("all", "x", ("all", "z", ("some", "y", between))), False),
                (("all", "x", ("some", "z", ("all", "y", ("or", (("not", over), least(0, y=1, z=-1)))))), True),
                (("some", "z", ("all", "x", ("some", "y", between))), False),
                (("some", "x", ("all", "y", ("some", "z", ("and", (over, least(0, z=1)))))), False),
                (("and", (("some", "x", X), ("all", "x", ("or", (EVEN, ODD))))), True),
                (("and", (("some", "x", X), ("all", "x", X))), False),
                (("or", (("all", "x", X), ("not", ("some", "x", EVEN)), ("some", "y", Y))), True),
                (("or", (("all", "x", X), ("not", ("some", "x", EVEN)))), False)):
            self.assertTrue(fits(told))
            self.assert_answer(told, {}, asked)
            self.assert_answer(told, {"x": 1, "y": -7, "z": GREAT}, asked)

    def test_with_values(self):
        """One free name y, from small to of hundreds and thousands of figures, and what is so of it."""
        numbers = [far + j for far in (0, GREAT, -GREAT, 3 ** 700, HUGE, -HUGE) for j in range(-6, 7)]
        least_above = ("and", (least(0, x=1, y=-1), rest(5, 0, x=1), least(2, x=-1, y=1)))
        for told, is_so in (
                (("some", "x", equal(x=3, y=-1)), lambda y: y % 3 == 0),
                (("all", "x", ("not", equal(x=3, y=-1))), lambda y: y % 3 != 0),
                (("some", "x", least_above), lambda y: y % 5 in (0, 3, 4)),
                (("some", "x", ("and", (X, least(-1, x=-1, y=1)))), lambda y: y >= 1),
                (("all", "x", ("or", (X, least(-2, x=-2, y=1)))), lambda y: y >= 0),
                (("all", "x", ("or", (rest(2, 0, x=1, y=1), rest(2, 1, x=1, y=1)))), lambda y: True),
                (("some", "x", ("all", "z", ("or", (least(0, z=1, x=-1), least(-1, y=1, z=-1))))), lambda y: True),
                (("all", "z", ("some", "x", ("and", (least(0, x=1, z=-1), least(0, x=-1, y=1))))), lambda y: False),
                (("some", "x", ("some", "z", ("and", (equal(x=2, z=2, y=-1), least(0, z=1, x=-1))))),
                 lambda y: y % 2 == 0),
                (("all", "z", ("all", "x", ("not", ("and", (equal(x=2, z=-4, y=-1),))))), lambda y: y % 2 == 1),
                (("some", "x", ("all", "z", ("some", "w", ("or", (least(0, x=1, y=-1), least(0, w=1, z=-1)))))),
                 lambda y: True),
                (("some", "x", ("and", (equal(x=1, y=-1), ("some", "x", ("and", (X, least(3, x=-1))))))),
                 lambda y: True),
                (("and", (Y, ("some", "y", ("not", Y)))), lambda y: y >= 0),
                (("or", (("not", Y), ("some", "y", equal(y=2)), ("some", "x", equal(x=1, y=1)))), lambda y: True),
                (("and", (("not", Y), ("all", "y", ("or", (Y, least(-1, y=-1)))))), lambda y: y < 0)):
            self.assertTrue(fits(told), load(told) if told[0] in ("some", "all") else told)
            for y in numbers:
                self.assert_answer(told, {"y": y}, is_so(y))
                self.assert_answer(told, {"x": 3, "y": y, "a": HUGE, "z": 0}, is_so(y))

    def test_several_values(self):
        for a, b in itertools.product([-GREAT, -4, -1, 0, 1, 2, 7, GREAT, HUGE], repeat=2):
            values = {"a": a, "b": b}
            between = ("and", (least(0, x=1, a=-1), least(0, x=-1, b=1)))
            self.assert_answer(("some", "x", between), values, a <= b)
            self.assert_answer(("some", "x", ("and", (between, EVEN))), values, a < b or a == b and a % 2 == 0)
            self.assert_answer(("all", "x", ("or", (("not", between), EVEN))), values, a > b or a == b and a % 2 == 0)
            self.assert_answer(("some", "x", ("some", "y", ("and", (between, least(-1, x=1, y=-1),
                                                                      least(0, y=1, a=-1))))), values, a < b)
            self.assert_answer(("all", "x", ("some", "y", ("and", (rest(2, 0, x=1, y=1), least(0, y=1, x=-1, a=-1),
                                                                    least(0, y=-1, x=1, b=1))))), values,
                               a < b or a == b and a % 2 == 0)

    def test_only_great_numbers_do_it(self):
        for great in (GREAT, -GREAT):
            around = ("and", (least(-great, x=1), least(great, x=-1)))
            self.assert_answer(("some", "x", around), {}, True)
            self.assert_answer(("all", "x", ("not", around)), {}, False)
            self.assert_answer(("some", "x", ("and", (around, rest(10, -great, x=1)))), {}, True)
            self.assert_answer(("some", "x", ("and", (around, rest(10, 1 - great, x=1)))), {}, False)
            self.assert_answer(("some", "x", ("some", "y", ("and", (around, equal(x=1, y=-1))))), {}, True)
            beyond = ("all", "y", ("or", (least(-great, y=1), least(0, x=1, y=-1))))
            self.assert_answer(("some", "x", beyond), {}, True)
            self.assert_answer(("all", "x", beyond), {}, False)
            self.assert_answer(("all", "x", ("or", (beyond, least(great - 2, x=-1)))), {}, True)
            self.assert_answer(("all", "x", ("or", (beyond, least(great - 3, x=-1)))), {}, False)
        for told in (("some", "x", least(-GREAT, x=1)), ("some", "x", least(-GREAT, x=-1)),
                     ("all", "x", ("some", "y", least(-GREAT, y=1, x=1)))):
            self.assert_answer(told, {}, True)

    def test_names_bound_twice_or_also_free(self):
        small = ("and", (X, least(2, x=-1)))
        for x in (-5, -1, 0, 1, 2, 3, GREAT):
            for told, asked in ((("and", (X, ("some", "x", ("not", X)))), x >= 0),
                                (("and", (("all", "x", ("or", (EVEN, ODD))), EVEN)), x % 2 == 0),
                                (("or", (("all", "x", X), X)), x >= 0),
                                (("some", "x", ("and", (("not", X), ("some", "x", X)))), True),
                                (("some", "x", ("and", (("not", X), ("all", "x", X)))), False),
                                (("all", "x", ("some", "x", small)), True), (("some", "x", ("all", "x", X)), False),
                                (("all", "x", ("or", (X, ("some", "x", small)))), True),
                                (("all", "x", ("and", (("some", "x", small), X))), False),
                                (("some", "y", ("and", (equal(x=1, y=-1), ("some", "x", small), Y))), x >= 0),
                                (("some", "y", ("and", (equal(x=1, y=-1), ("some", "x", equal(x=2, y=-1))))),
                                 x % 2 == 0),
                                (("some", "x", ("some", "y", ("some", "x", ("and", (least(-1, x=1, y=-1),))))), True),
                                (("all", "x", ("all", "y", ("some", "x", ("and", (least(0, x=1, y=-1), EVEN))))), True),
                                (("all", "x", ("some", "x", ("all", "x", X))), False)):
                self.assert_answer(told, {"x": x}, asked)

    def test_depth_one_by_chance(self):
        chance = random.Random(102)
        seen = {True: 0, False: 0}
        while min(seen.values()) < 900:
            told = (chance.choice(["some", "all"]), chance.choice("xy"), any_statement(chance, 3, PLAIN))
            if fits(told):
                for values in some_values(chance, 1):
                    asked = full_truth(told, values, 0)
                    seen[asked] += 1
                    self.assert_answer(told, values, asked)

    def assert_deep(self, seed, names, deep, most, far, count):
        chance = random.Random(seed)
        seen = {True: 0, False: 0}
        while min(seen.values()) < count:
            told = any_deep(chance, names, deep, chance.randrange(1, 5), most)
            if fits(told) and depth(told) == deep and len(free(told)) < len(names):
                values = {name: chance.randrange(-1, 2) for name in names}
                asked = full_truth(told, values, far)
                seen[asked] += 1
                self.assert_answer(told, values, asked)

    def test_depth_two_by_chance(self):
        self.assert_deep(103, ["x", "y"], 2, 2, 60, 500)
        self.assert_deep(104, ["x", "y", "z"], 2, 1, 60, 300)

    def test_depth_three_by_chance(self):
        self.assert_deep(105, ["x", "y", "z"], 3, 1, 16, 150)

    def test_all_kinds_by_chance(self):
        chance = random.Random(106)
        done = 0
        while done < 1000:
            told = any_statement(chance, 4, FULL)
            if not is_plain(told) and depth(told) < 3 and fits(told):
                values = {name: chance.randrange(-2, 3) for name in NAMES}
                self.assert_answer(told, values, full_truth(told, values, 80))
                done += 1

    def test_great_values_by_chance(self):
        """All moved by a great number: each name stands for itself less that number."""
        chance = random.Random(107)
        done = 0
        while done < 300:
            told = any_deep(chance, ["x", "y"], 2, chance.randrange(1, 5), 2)
            if fits(told):
                values = {name: chance.randrange(-2, 3) for name in "xy"}
                asked = answer(told, values)
                for far in (GREAT, -HUGE):
                    self.assert_answer(moved(told, far), {name: number + far for name, number in values.items()}, asked)
                done += 1

    def test_too_great(self):
        fours = tuple(least(place, q0=1, q1=1, q2=1) for place in range(4))
        for told, asked in (
                (("some", "x", least(0, x=960)), None), (("some", "x", least(0, x=961)), TooGreat),
                (("all", "x", rest(960, 1, x=1)), None), (("all", "x", rest(961, 1, x=1)), TooGreat),
                (("some", "x", rest(961, 1)), TooGreat), (("all", "x", ("and", (X,) * 30)), None),
                (("all", "x", ("and", (X,) * 31)), TooGreat), (("some", "x", ("or", (least(0, y=GREAT),) * 30)),
                                                               NoValue),
                (("some", "x", ("and", (least(0, x=15), least(1, x=16)))), None),
                (("some", "x", ("and", (least(0, x=-241), least(1)))), TooGreat),
                (within(2, least(0, q0=240)), None), (within(2, least(0, q0=-241)), TooGreat),
                (within(2, rest(120, 0, q1=2)), None), (within(2, rest(121, 0, q1=2)), TooGreat),
                (within(2, ("and", (least(1, q0=1),) * 15)), None),
                (within(2, ("and", (least(1, q0=1),) * 16)), TooGreat),
                (within(3, rest(18, 1, q0=1)), None), (within(3, rest(19, 1, q0=1)), TooGreat),
                (within(3, least(1, q0=1, q1=-1)), None), (within(3, least(1, q0=2)), TooGreat),
                (within(3, least(1, q1=2)), TooGreat), (within(3, least(1, q2=-2)), TooGreat),
                (within(3, ("or", fours)), None), (within(3, ("or", fours + fours[:1])), TooGreat),
                (within(3, ("or", fours[:3] + (rest(2, 1, q0=1),))), TooGreat),
                (within(3, ("or", fours[:2] + (rest(2, 1, q0=1),))), None),
                (within(3, YES), None), (within(4, YES), TooGreat), (within(4, least(1, q0=1)), TooGreat),
                (("and", (X,) * 40), NoValue), (("and", (X,) * 41), TooGreat), (("and", (least(0),) * 40), None),
                (("and", (least(0),) * 41), TooGreat), (("or", (YES,) * 41), None), (("or", (X,) * 1000), TooGreat),
                (("and", (within(1, rest(960, 1, q0=1)), within(2, least(0, q0=240)), within(3, rest(18, 1)))), None),
                (("and", (within(1, rest(960, 1, q0=1)), within(2, least(0, q0=241)), within(3, rest(18, 1)))),
                 TooGreat),
                (("or", (YES, within(3, rest(19, 1)))), TooGreat), (("and", (NO, within(4, YES))), TooGreat)):
            for one in (told, ("not", told), ("or", (NO, told)), ("and", (NO, told))):
                self.assertIs(fits(one), asked is not TooGreat)
                self.assertIs(refusal(answer, one, {}), asked, told)

    def test_refused_by_chance(self):
        chance = random.Random(108)
        seen = {TooGreat: 0, NoValue: 0, None: 0}
        for turn in range(1500):
            told = any_statement(chance, 4, FULL)
            if depth(told) > 0:
                values = {name: chance.randrange(-9, 9) for name in NAMES if chance.randrange(3)}
                asked = TooGreat if not fits(told) else NoValue if free(told) - set(values) else None
                seen[asked] += 1
                self.assertIs(refusal(answer, told, values), asked, (told, values))
        self.assertGreater(min(seen.values()), 100)

    def test_too_great_goes_ahead_of_no_value(self):
        for told, asked in ((("some", "x", least(0, x=961, y=1)), TooGreat),
                            (("some", "x", least(0, x=960, y=1)), NoValue),
                            (("and", (Y,) * 41), TooGreat), (("and", (Y,) * 40), NoValue),
                            (("or", (Y, within(4, YES))), TooGreat), (("or", (Y, within(3, YES))), NoValue)):
            self.assertIs(refusal(answer, told, {}), asked)
            self.assertIs(refusal(answer, told, {"x": 1, "z": 2}), asked)

    def test_no_value_whatever_hangs_on_it(self):
        for told in (Y, ("not", Y), ("or", (YES, Y)), ("and", (NO, Y)), rest(1, 0, y=1),
                     ("some", "x", least(0, x=1, y=1)), ("all", "x", ("or", (YES, Y))),
                     ("some", "x", ("and", (NO, ("all", "z", Y)))),
                     ("and", (Y, ("all", "y", ("not", Y)))), ("or", (("some", "y", Y), Y)),
                     ("some", "x", rest(2, 0, x=1, y=2)), ("or", (("some", "x", X), ("all", "x", least(0, x=1, y=1)))),
                     ("some", "x", ("or", (Y, least(-1, y=-1)))), ("all", "x", least(0, a=1, x=1, y=1))):
            for values in ({"a": 1}, {"a": 1, "x": 4}, {"a": 1, "x": 4, "z": GREAT}):
                self.assertIs(refusal(answer, told, values), NoValue, told)
                self.assertIsNone(refusal(answer, told, {**values, "y": -3}))
        self.assertIsNone(refusal(answer, ("some", "y", Y), {}))
        self.assertIs(refusal(answer, ("and", (("some", "y", Y), Y)), {}), NoValue)


def moved(told, far):
    """The statement with each name less far in its place."""
    if told[0] in ("least", "rest"):
        c, pairs = told[-1]
        return told[:-1] + ((c - far * sum(k for name, k in pairs), pairs),)
    if told[0] == "not":
        return ("not", moved(told[1], far))
    if told[0] in ("and", "or"):
        return (told[0], tuple(moved(part, far) for part in told[1]))
    return (told[0], told[1], moved(told[2], far))


if __name__ == "__main__":
    unittest.main()
