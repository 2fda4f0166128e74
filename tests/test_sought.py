import random
import unittest

from making import (GREAT, NAMES, NO, PLAIN, X, Y, YES, any_statement, free, least, rest, some_values,
                    true_for_some, truth)
from sumlaw.errors import NoValue, TooGreat
from sumlaw.measure import fits
from sumlaw.sought import sought
from sumlaw.sums import sum_of

HUGE = 10 ** 9000


class Sought(unittest.TestCase):
    def assert_sought(self, told, name, values, asked):
        """A number that does it where asked, else None."""
        kept = dict(values)
        got = sought(told, name, values)
        self.assertEqual(values, kept)
        self.assertEqual(list(values), list(kept))
        if asked:
            self.assertIs(type(got), int, (told, name, values))
            self.assertTrue(truth(told, {**values, name: got}), (told, name, values, got))
        else:
            self.assertIsNone(got, (told, name, values))

    def refused(self, told, name, values):
        try:
            sought(told, name, values)
        except (TooGreat, NoValue) as refusal:
            self.assertIsNone(refusal.__cause__ or refusal.__context__)
            return type(refusal)
        return None

    def test_one_atom(self):
        for told in (X, least(-5, x=1), least(5, x=-1), least(-7, x=3, y=1), least(7, x=-960, y=-2), rest(2, 1, x=1),
                     rest(5, 2, x=3, y=1), ("not", rest(2, 0, x=1)), ("not", rest(960, 0, x=1)), rest(960, 7, x=1),
                     rest(320, 11, x=3), ("not", least(3, x=2))):
            for y in (-8, -1, 0, 3, GREAT, -HUGE):
                self.assert_sought(told, "x", {"y": y}, True)
        for told in (rest(4, 1, x=2), ("not", rest(1, 0, x=1)), ("not", rest(4, 0, x=4)), rest(480, 1, x=2)):
            self.assert_sought(told, "x", {}, False)

    def test_the_name_nowhere(self):
        for told, asked in ((YES, True), (NO, False), (least(0), True), (least(-1), False), (("not", YES), False),
                            (rest(7, 14), True), (rest(7, 15), False), (("not", rest(7, 15)), True)):
            self.assert_sought(told, "x", {}, asked)
        for y in range(-5, 6):
            self.assert_sought(Y, "x", {"y": y}, y >= 0)
            self.assert_sought(rest(3, 1, y=1), "x", {"y": y}, y % 3 == 2)
            self.assert_sought(("and", (Y, rest(3, 1, y=1))), "x", {"y": y, "x": 4}, y in (2, 5))

    def test_narrow(self):
        for y in range(-25, 26):
            both = ("and", (least(0, x=3, y=-1), least(0, x=-3, y=1)))
            self.assert_sought(both, "x", {"y": y}, y % 3 == 0)
            self.assert_sought(("and", both[1] + (rest(2, 1, x=1),)), "x", {"y": y}, y % 6 == 3)
            self.assert_sought(("and", (X, least(0, x=-1, y=1), rest(7, 4, x=1))), "x", {"y": y}, y >= 3)
            self.assert_sought(("and", (least(-4, x=-1), least(0, x=1, y=1), rest(5, 3, x=2))), "x", {"y": y}, y >= 4)
            self.assert_sought(("not", ("or", (X, least(0, x=-1, y=-1)))), "x", {"y": y}, y >= 2)

    def test_great_numbers_alone(self):
        for great in (GREAT, -GREAT, HUGE, -HUGE):
            for values in ({"y": great}, {"y": great, "x": 0}):
                low, high = least(0, x=1, y=-1), least(4, x=-1, y=1)
                for left in range(9):
                    told = ("and", (low, high, rest(9, left, x=-1)))
                    self.assert_sought(told, "x", values, left in [(great + j) % 9 for j in range(5)])
                    told = ("and", (low, rest(9, left, x=-1), ("not", rest(3, left, x=-1))))
                    self.assert_sought(told, "x", values, False)
                    self.assert_sought(("and", (low, rest(9, left, x=-1))), "x", values, True)
                    self.assert_sought(("and", (high, rest(9, left, x=-1))), "x", values, True)
                self.assert_sought(("and", (low, least(-1, x=-1, y=1))), "x", values, False)
                self.assert_sought(("and", (least(0, x=5, y=-1), least(0, x=-5, y=1))), "x", values, great % 5 == 0)
        for told in (least(-GREAT, x=1), least(-GREAT, x=-1), least(-GREAT, x=7), least(-GREAT, x=-7),
                     ("and", (least(-GREAT, x=1), least(GREAT + 9, x=-1), rest(10, GREAT + 9, x=-1)))):
            self.assert_sought(told, "x", {}, True)
        told = ("and", (least(-GREAT, x=1), least(GREAT + 8, x=-1), rest(10, GREAT + 9, x=-1)))
        self.assert_sought(told, "x", {}, False)
        self.assert_sought(("and", (least(0, x=1, y=GREAT), least(0, x=-1, y=-GREAT))), "x", {"y": HUGE}, True)

    def test_ors_of_which_one_part_does_it(self):
        parts = [NO, least(-1), ("and", (X, least(-1, x=-1))), ("and", (rest(2, 0, x=1), rest(2, 1, x=1))),
                 ("and", (least(-3, x=1), ("or", (("not", X), least(2, x=-1))))), ("not", ("or", (X, least(0, x=-1))))]
        for place in range(len(parts) + 1):
            self.assert_sought(("or", tuple(parts[:place])), "x", {}, False)
            for part in (X, least(-GREAT, x=1), rest(3, 1, x=1), ("and", (least(-5, x=1), least(5, x=-1))), YES):
                told = ("or", tuple(parts[:place] + [part] + parts[place:]))
                self.assert_sought(told, "x", {}, True)
                self.assert_sought(("and", (told, YES)), "x", {}, True)

    def test_rests_together(self):
        for one in range(5):
            for other in range(7):
                told = ("and", (rest(5, -one, x=1), rest(7, -other, x=1)))
                self.assert_sought(told, "x", {}, True)
                for c in (0, GREAT, -GREAT):
                    told = ("and", (rest(5, -one, x=1), least(-c, x=1), least(c + 22, x=-1)))
                    self.assert_sought(told, "x", {}, True)
                told = ("and", (rest(4, -one, x=1), rest(6, -other, x=1)))
                self.assert_sought(told, "x", {}, one % 2 == other % 2)
        sixty = ("and", (rest(60, 59, x=1), least(0, x=1, y=-1), least(58, x=-1, y=1)))
        for y in (0, 1, 2, 3, 61, GREAT):
            self.assert_sought(sixty, "x", {"y": y}, y % 60 != 2)

    def test_a_value_of_the_name_is_not_looked_at(self):
        for number in (0, 5, -5, GREAT, HUGE):
            self.assert_sought(("and", (least(-3, x=1), least(3, x=-1))), "x", {"x": number}, True)
            self.assert_sought(("and", (least(-3, x=1), least(2, x=-1))), "x", {"x": number}, False)
            self.assert_sought(("not", X), "x", {"x": number}, True)
            self.assert_sought(("and", (least(0, x=1, y=1), least(0, x=-1, y=-1))), "x", {"x": number, "y": 9}, True)

    def test_names_that_nobody_asks_for(self):
        values = {"name" + str(place): HUGE for place in range(50)}
        values["y"] = 7
        self.assert_sought(("and", (least(0, x=1, y=-1), least(0, x=-1, y=1))), "x", values, True)
        self.assertEqual(sought(("and", (least(0, x=1, y=-1), least(0, x=-1, y=1))), "x", values), 7)

    def test_many_by_chance(self):
        chance = random.Random(81)
        seen = {True: 0, False: 0}
        for turn in range(2500):
            told = any_statement(chance, 4, PLAIN)
            name = chance.choice(NAMES)
            if fits(("some", name, told), 0):
                for values in some_values(chance, 2):
                    asked = true_for_some(told, name, values)
                    seen[asked] += 1
                    self.assert_sought(told, name, values, asked)
        self.assertGreater(min(seen.values()), 500)

    def test_many_narrow_ones_by_chance(self):
        chance = random.Random(82)
        seen = {True: 0, False: 0}
        for turn in range(1500):
            parts = []
            for sign in (1, -1, 1, -1)[:chance.randrange(1, 5)]:
                pairs = [("x", sign * chance.randrange(1, 4)), ("y", chance.randrange(-3, 4))]
                parts.append(("least", sum_of(chance.randrange(-4, 5), pairs)))
            for turn in range(chance.randrange(3)):
                part = ("rest", chance.randrange(2, 5), sum_of(chance.randrange(4), [("x", chance.randrange(1, 4))]))
                parts.append(part if chance.randrange(2) else ("not", part))
            chance.shuffle(parts)
            told = (chance.choice(["and", "and", "or"]), tuple(parts))
            if fits(("some", "x", told), 0):
                values = {"y": chance.choice([chance.randrange(-9, 10), GREAT, -GREAT])}
                asked = true_for_some(told, "x", values)
                seen[asked] += 1
                self.assert_sought(told, "x", values, asked)
        self.assertGreater(min(seen.values()), 200)

    def test_at_the_edge(self):
        chance = random.Random(83)
        thirty = [("least", sum_of(chance.randrange(-40, 0), [("x", chance.choice([-1, 1])), ("y", 3)]))
                  for turn in range(30)]
        for told in (least(3, x=960, y=1), rest(960, 3, x=1, y=1), ("not", rest(960, 3, x=1)),
                     ("and", (least(1, x=16, y=1), least(0, x=-15))), ("and", tuple(thirty)), ("or", tuple(thirty)),
                     ("not", ("or", tuple(thirty))), ("or", (("and", tuple(thirty[:9])), ("and", tuple(thirty[9:])))),
                     ("and", (least(1, x=6, y=5), rest(40, 3, x=1, y=1))),
                     ("and", (least(1, x=1, y=1), least(21, x=-1, y=-1), rest(106, 4, x=1)))):
            for y in (-50, -4, 0, 1, 3, 9, 80, GREAT):
                values = {"y": y}
                self.assert_sought(told, "x", values, true_for_some(told, "x", values))

    def test_too_great(self):
        for told, asked in ((least(0, x=960), None), (least(0, x=961), TooGreat), (rest(960, 1, x=1), None),
                            (rest(961, 1, x=1), TooGreat), (rest(960, 7), None), (rest(961, 0), TooGreat),
                            (("and", (X,) * 30), None), (("and", (X,) * 31), TooGreat),
                            (("or", (least(-1),) * 31), TooGreat), (("or", (X,) * 40), TooGreat),
                            (("or", (YES,) * 41), None), (("or", (X,) * 41), TooGreat),
                            (("or", (X,) * 1000), TooGreat), (rest(480, 1, x=2), None), (rest(481, 1, x=2), TooGreat),
                            (("and", (least(0, x=15), least(1, x=16))), None),
                            (("and", (least(0, x=241), least(1))), TooGreat),
                            (("and", (least(0, x=240), least(1))), None), (rest(GREAT, 1, x=GREAT), TooGreat),
                            (least(0, x=GREAT), TooGreat)):
            for one in (told, ("not", told), ("or", (NO, told))):
                self.assertIs(fits(("some", "x", one), 0), asked is None)
                self.assertIs(self.refused(one, "x", {}), asked, told)
                self.assertIs(self.refused(one, "x", {"x": 3, "y": 5}), asked, told)

    def test_too_great_goes_ahead_of_no_value(self):
        for told, asked in ((least(0, x=961, y=1), TooGreat), (least(0, x=960, y=1), NoValue),
                            (("and", (Y,) * 31), TooGreat), (("and", (Y,) * 30), NoValue),
                            (rest(961, 1, y=1), TooGreat), (rest(960, 1, y=1), NoValue)):
            self.assertIs(self.refused(told, "x", {}), asked)
            self.assertIs(self.refused(told, "x", {"x": 1, "z": 2}), asked)

    def test_no_value_whatever_hangs_on_it(self):
        for told in (Y, least(0, x=1, y=1), ("or", (YES, Y)), ("and", (NO, Y)), rest(1, 0, y=1), rest(2, 0, x=1, y=2),
                     ("not", ("or", (YES, ("not", Y)))), ("or", (X, ("and", (X, Y)))), ("and", (Y, least(-1, y=-1))),
                     ("or", (Y, least(-1, y=-1))), least(0, a=1, x=1, y=1)):
            self.assertIs(self.refused(told, "x", {"a": 1}), NoValue, told)
            self.assertIs(self.refused(told, "x", {"a": 1, "x": 4}), NoValue, told)
            self.assertIsNone(self.refused(told, "x", {"a": 1, "y": 4}))
        self.assertIsNone(self.refused(least(0, x=1, y=1), "y", {"x": 4}))
        self.assertIs(self.refused(least(0, x=1, y=1), "y", {"y": 4}), NoValue)
        self.assertIs(self.refused(X, "y", {"y": 4}), NoValue)

    def test_no_value_by_chance(self):
        chance = random.Random(84)
        for turn in range(500):
            told = any_statement(chance, 3, PLAIN)
            if fits(("some", "x", told), 0):
                values = {name: 2 for name in NAMES if chance.randrange(3)}
                missing = free(told) - {"x"} - set(values)
                self.assertIs(self.refused(told, "x", values), NoValue if missing else None, (told, values))


if __name__ == "__main__":
    unittest.main()
