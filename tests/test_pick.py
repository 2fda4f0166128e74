import random
import unittest

from making import (FULL, GREAT, NAMES, NO, X, Y, YES, any_deep, any_statement, free, full_truth, least, put, refusal,
                    rest, truth, within)
from sumlaw.answer import answer, pick
from sumlaw.errors import NoPick, NoValue, TooGreat
from sumlaw.measure import depth, fits
from sumlaw.sums import sum_of

HUGE = 10 ** 9000
EVEN, ODD = rest(2, 0, x=1), rest(2, 1, x=1)
TAKEN = [0, 1, -1, 2, -3, 7, 60, -121, GREAT, -GREAT, HUGE + 1]


class Pick(unittest.TestCase):
    def assert_number(self, told, values):
        """The number makes the part of a some true, and that of an all false."""
        kept = dict(values)
        got = pick(told, values)
        self.assertEqual(list(values.items()), list(kept.items()))
        self.assertIs(type(got), int)
        self.assertIs(answer(put(told[2], {told[1]: got}), values), told[0] == "some", (told, values, got))
        return got

    def test_parts(self):
        true, false = [YES, least(0), X, ("some", "x", EVEN)], [NO, least(-1), ("not", X), ("all", "x", EVEN)]
        values = {"x": 3}
        for count in range(5):
            self.assertIs(refusal(pick, ("and", tuple(true[:count])), values), NoPick)
            self.assertIs(refusal(pick, ("or", tuple(false[:count])), values), NoPick)
            for place in range(count + 1):
                for one, other in zip(true, false):
                    told = ("or", tuple(false[:place] + [one] + false[place:count]))
                    self.assertEqual(pick(told, values), place)
                    self.assertEqual(pick(("or", told[1] + (one, other)), values), place)
                    told = ("and", tuple(true[:place] + [other] + true[place:count]))
                    self.assertEqual(pick(told, values), place)
                    self.assertEqual(pick(("and", told[1] + (one, other)), values), place)
        self.assertEqual(pick(("or", (X,) * 40), {"x": 0}), 0)
        self.assertEqual(pick(("or", (least(-1),) * 39 + (X,)), {"x": 0}), 39)
        self.assertIs(type(pick(("or", (X,)), {"x": 0})), int)

    def test_equal_parts(self):
        self.assertEqual(pick(("or", (NO, X, X)), {"x": 1}), 1)
        self.assertEqual(pick(("and", (YES, YES, X, X)), {"x": -1}), 2)
        self.assertEqual(pick(("or", (("or", (NO, NO)), ("or", (NO, X)), X)), {"x": 1}), 1)

    def test_numbers(self):
        for y in (0, 1, 2, 5, -7, GREAT, -GREAT, HUGE, -HUGE):
            for name in "xy":
                values = {"y": y, name: y}
                for told in (("some", "x", X), ("all", "x", X), ("some", "x", least(0, x=-1)), ("some", "x", YES),
                             ("all", "x", NO), ("some", "x", least(3, x=7, y=1)), ("all", "x", least(3, x=7, y=-1)),
                             ("some", "x", rest(5, 2, x=3, y=1)), ("all", "x", rest(5, 2, x=3, y=1)),
                             ("all", "x", ("not", rest(960, 2, x=1, y=1))), ("all", "x", ("or", (EVEN, X))),
                             ("some", "x", ("and", (least(0, x=1, y=-1), least(0, x=-1, y=1)))),
                             ("all", "x", ("not", ("and", (least(0, x=1, y=-1), least(0, x=-1, y=1))))),
                             ("some", "x", ("all", "y", ("or", (Y, least(-1, x=1, y=-1))))),
                             ("all", "x", ("some", "y", ("and", (Y, least(0, x=1, y=-2))))),
                             ("all", "x", ("some", "z", ("and", (least(0, z=2, x=-1), least(0, z=-2, x=1))))),
                             ("some", "x", ("some", "y", ("all", "z",
                                                          ("or", (least(0, z=1, x=-1), least(0, x=1, y=1))))))):
                    self.assert_number(told, values)
        self.assertEqual(self.assert_number(("some", "x", ("and", (least(-GREAT, x=1), least(GREAT, x=-1)))), {}),
                         GREAT)
        told = ("all", "x", ("or", (least(HUGE - 1, x=-1), least(-HUGE - 1, x=1))))
        self.assertEqual(pick(told, {}), HUGE)

    def test_a_name_with_a_value_or_bound_once_more(self):
        five = ("and", (least(-5, x=1), least(5, x=-1)))
        for values in ({}, {"x": 5}, {"x": 4}, {"x": -GREAT, "y": 3}):
            self.assertEqual(pick(("some", "x", five), values), 5)
            self.assertEqual(pick(("all", "x", ("not", five)), values), 5)
            self.assertEqual(pick(("some", "x", ("and", (five, ("some", "x", ("not", five))))), values), 5)
            self.assertEqual(pick(("all", "x", ("or", (("not", five), ("all", "x", five)))), values), 5)
            self.assert_number(("some", "x", ("some", "x", five)), values)
            self.assert_number(("all", "x", ("all", "x", five)), values)
            self.assert_number(("all", "x", ("and", (("some", "x", five), ("or", (X, five))))), values)
        self.assertEqual(pick(("and", (X, ("some", "x", ("not", X)))), {"x": -1}), 0)
        self.assertIs(refusal(pick, ("and", (X, ("some", "x", ("not", X)))), {"x": 1}), NoPick)

    def play(self, chance, told, values):
        """A whole play: picks for whoever is right, anything for the other side."""
        right = answer(told, values)
        steps = 0
        while told[0] not in ("least", "rest"):
            self.assertIs(answer(told, values), right, (told, values))
            picked = (told[0] in ("or", "some")) is right
            if told[0] == "not":
                self.assertIs(refusal(pick, told, values), NoPick)
                told, right = told[1], not right
            elif told[0] in ("and", "or"):
                if not picked:
                    self.assertIs(refusal(pick, told, values), NoPick)
                    if not told[1]:
                        return steps
                place = pick(told, values) if picked else chance.randrange(len(told[1]))
                if picked:
                    self.assertEqual([answer(part, values) for part in told[1][:place]], [not right] * place)
                told = told[1][place]
            else:
                if not picked:
                    self.assertIs(refusal(pick, told, values), NoPick)
                told = put(told[2], {told[1]: pick(told, values) if picked else chance.choice(TAKEN)})
            steps += 1
        self.assertIs(truth(told, values), right)
        self.assertIs(refusal(pick, told, values), NoPick)
        return steps

    def test_plays_by_hand(self):
        chance = random.Random(111)
        double = ("and", (least(0, x=1, y=-2), least(0, x=-1, y=2)))
        for told in (("all", "x", ("some", "y", ("or", (double, ("and", (ODD,)), ("not", YES))))),
                     ("all", "x", ("some", "y", least(-1, y=1, x=-1))),
                     ("some", "y", ("all", "x", least(-1, y=1, x=-1))),
                     ("not", ("some", "y", ("all", "x", ("not", ("and", (least(1, y=1, x=1), EVEN)))))),
                     ("all", "x", ("all", "y", ("some", "z", ("and", (least(-1, z=1, x=-1), least(-1, z=1, y=-1)))))),
                     ("some", "x", ("all", "y", ("some", "z", ("or", (least(0, z=1, y=-1), least(-1, x=1, y=-1)))))),
                     ("and", (("some", "x", double), ("all", "x", ("or", (ODD, EVEN))), ("not", ("all", "y", Y)))),
                     ("some", "x", ("and", (ODD, ("some", "x", ("and", (EVEN, ("not", ("some", "x", NO)))))))),
                     ("all", "x", ("or", (X, ("some", "x", ("and", (("not", X), least(3, x=1)))))))):
            for values in ({"y": 0, "x": 1}, {"y": GREAT, "x": 4}, {"y": -HUGE - 3, "x": -3}):
                for turn in range(12):
                    self.play(chance, told, values)
                    self.play(chance, ("not", ("or", (told, NO))), values)

    def test_plays_by_chance(self):
        chance = random.Random(112)
        seen = {1: 0, 2: 0, 3: 0}
        while min(seen.values()) < 250:
            deep = min(seen, key=seen.get)
            names = ["x", "y", "z"][:max(2, deep)]
            told = any_deep(chance, names, deep, chance.randrange(1, 5), (3, 2, 1)[deep - 1])
            if fits(told) and depth(told) == deep:
                for turn in range(2):
                    values = {name: chance.choice(TAKEN) for name in names}
                    self.play(chance, told, values)
                seen[deep] += 1

    def test_plays_of_all_kinds_by_chance(self):
        chance = random.Random(113)
        long = 0
        for turn in range(2500):
            told = any_statement(chance, 5, FULL)
            if fits(told):
                long += self.play(chance, told, {name: chance.choice(TAKEN) for name in NAMES}) > 3
        self.assertGreater(long, 100)

    def test_there_is_a_pick_just_where_someone_is_right(self):
        chance = random.Random(114)
        seen = {}
        for turn in range(2500):
            told = any_statement(chance, 3, FULL)
            if fits(told) and depth(told) < 3:
                values = {name: chance.randrange(-2, 3) for name in NAMES}
                asked = told[0] in (("or", "some") if full_truth(told, values, 80) else ("and", "all"))
                got = refusal(pick, told, values)
                self.assertIs(got, None if asked else NoPick, (told, values))
                seen[told[0], got] = seen.get((told[0], got), 0) + 1
        self.assertEqual({kind for kind in seen if kind[1] is None},
                         {("and", None), ("or", None), ("some", None), ("all", None)})
        self.assertGreater(min(seen.values()), 25, seen)

    def test_no_pick(self):
        for told in (X, EVEN, ("not", X), ("not", ("not", X)), ("not", ("some", "x", X)), ("not", ("or", (X,))), YES,
                     NO, ("and", (X,)), ("or", (("not", X),)), ("all", "x", YES), ("some", "x", NO), ("not", NO),
                     ("all", "x", ("or", (EVEN, ODD))), ("some", "x", ("and", (EVEN, ODD))), least(0), rest(2, 1)):
            self.assertIs(refusal(pick, told, {"x": 2}), NoPick, told)

    def test_too_great_and_no_value_go_ahead(self):
        for told, asked in ((("some", "x", least(0, x=960)), None), (("some", "x", least(0, x=961)), TooGreat),
                            (("all", "x", least(0, x=961, y=1)), TooGreat),
                            (("all", "x", least(0, x=960, y=1)), NoValue),
                            (("and", (Y,) * 41), TooGreat), (("and", (Y,) * 40), NoValue), (("or", (NO,) * 41), NoPick),
                            (within(2, least(0, q0=240)), NoPick), (within(2, least(0, q0=241)), TooGreat),
                            (("not", within(2, least(0, q0=241))), TooGreat), (within(3, rest(18, 1, q0=1)), None),
                            (within(3, rest(19, 1, q0=1)), TooGreat), (within(3, least(1, q1=2)), TooGreat),
                            (within(4, YES), TooGreat), (("or", (YES, within(4, YES))), TooGreat),
                            (("not", within(4, YES)), TooGreat), (Y, NoValue), (("not", Y), NoValue),
                            (("or", (YES, Y)), NoValue), (("and", (NO, Y)), NoValue), (("and", (YES, Y)), NoValue),
                            (("some", "x", ("or", (X, ("and", (NO, Y))))), NoValue), (("some", "y", Y), None),
                            (("or", (("some", "y", Y), Y)), NoValue), (rest(1, 0, y=1), NoValue),
                            (("all", "x", ("or", (YES, Y))), NoValue)):
            self.assertIs(refusal(pick, told, {}), asked, told)
            self.assertIs(refusal(pick, told, {"x": 1, "z": GREAT}), asked, told)

    def test_refused_by_chance(self):
        chance = random.Random(115)
        for turn in range(1000):
            told = any_statement(chance, 4, FULL)
            values = {name: chance.randrange(-9, 9) for name in NAMES if chance.randrange(3)}
            ahead = TooGreat if not fits(told) else NoValue if free(told) - set(values) else None
            got = refusal(pick, told, values)
            if ahead:
                self.assertIs(got, ahead, (told, values))
            else:
                self.assertIs(got, None if (told[0] in ("or", "some")) is answer(told, values)
                              and told[0] in ("and", "or", "some", "all") else NoPick, (told, values))

    def test_parts_of_what_fits_fit(self):
        """At the edge of what fits: the play goes on to the atom."""
        chance = random.Random(116)
        threes = tuple(("least", sum_of(place, [("q0", 1), ("q1", -1), ("q2", 1)])) for place in range(4))
        for told in (within(3, ("or", threes)), within(3, ("and", threes)), within(3, rest(18, 5, q0=1, q1=1, q2=1)),
                     within(2, rest(240, 5, q0=1, q1=1)), within(2, least(5, q0=240, q1=-1)),
                     within(2, ("and", (least(5, q0=6, q1=-1), rest(10, 1, q0=1, q1=1)))),
                     within(1, least(7, q0=960)), within(1, rest(960, 7, q0=1))):
            for one in (told, ("not", told), ("some", "q9", told) if fits(("some", "q9", told)) else told):
                self.assertTrue(fits(one))
                for turn in range(6):
                    self.play(chance, one, {})


if __name__ == "__main__":
    unittest.main()
