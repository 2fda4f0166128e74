import random
import unittest

from making import (FULL, GREAT, NAMES, NO, PLAIN, X, Y, YES, any_deep, any_statement, free, full_truth, is_plain,
                    least, lies_in, refusal, rest, tried, truth, within)
from sumlaw.errors import NoValue, TooGreat
from sumlaw.measure import depth, fits
from sumlaw.reading import read
from sumlaw.sets import answers
from sumlaw.sums import sum_of
from sumlaw.unlike import unlike

HUGE = 10 ** 9000
EVEN, ODD = rest(2, 0, x=1), rest(2, 1, x=1)


class Unlike(unittest.TestCase):
    def assert_alike(self, one, other, values):
        self.assertIsNone(unlike(one, other, "x", values), (one, other, values))
        self.assertIsNone(unlike(other, one, "x", values), (one, other, values))

    def assert_unlike(self, one, other, values, far=80):
        kept = dict(values)
        found = []
        for pair in ((one, other), (other, one)):
            got = unlike(pair[0], pair[1], "x", values)
            self.assertIs(type(got), int, (one, other, values))
            truths = [full_truth(part, {**values, "x": got}, far) for part in pair]
            self.assertIsNot(truths[0], truths[1], (one, other, values, got))
            found.append(got)
        self.assertEqual(list(values.items()), list(kept.items()))
        return found

    def test_alike_though_written_otherwise(self):
        for one, other in (("x >= 0", "not(x <= -1)"), ("2*x >= 5", "x >= 3"), ("x = 4", "and(x >= 4, x <= 4)"),
                           ("x alike 0 by 2", "some(z, x = 2*z)"), ("and()", "or(x >= 0, x <= 0)"),
                           ("or()", "x >= x + 1"), ("not(x alike 0 by 2)", "some(z, x = 2*z + 1)"),
                           ("x >= y", "not(y >= x + 1)"), ("x >= y", "some(z, and(z >= y, z <= x))"),
                           ("x >= y", "all(z, or(z <= x, z >= y + 1))"),
                           ("and(x alike 0 by 2, x alike 0 by 3)", "x alike 0 by 6"),
                           ("3*x alike 3 by 6", "x alike 1 by 2"),
                           ("or(x alike 0 by 2, x alike 1 by 2)", "0 >= 0"), ("some(x, x >= y)", "all(x, x >= x)"),
                           ("x alike y by 3", "some(z, x - y = 3*z)"), ("x = y", "and(x >= y, not(x >= y + 1))"),
                           ("or(x >= 5, x <= 3)", "not(x = 4)"), ("some(y, x = 3*y)", "x alike 0 by 3")):
            for y in (0, 1, -5, GREAT, -HUGE):
                self.assert_alike(read(one), read(other), {"y": y})
                self.assert_alike(read(one), read(other), {"y": y, "x": 3, "z": 8})
                self.assert_unlike(read(one), ("not", read(other)), {"y": y})

    def test_one_number_alone(self):
        for y in (0, 7, -3, GREAT, -GREAT, HUGE, -HUGE):
            values = {"y": y, "x": 1}
            for one, other in ((least(0, x=1, y=-1), least(-1, x=1, y=-1)), (least(0, x=-1, y=1), least(-1, x=-1, y=1)),
                               (("and", (least(0, x=1, y=-1), least(0, x=-1, y=1))), NO),
                               (("or", (least(-1, x=1, y=-1), least(-1, x=-1, y=1))), YES),
                               (("and", (least(1, x=1, y=-1), rest(2, 0, x=1, y=1))),
                                ("and", (least(-1, x=1, y=-1), rest(2, 0, x=1, y=1)))),
                               (("and", (rest(2, 0, x=1, y=1), least(1, x=1, y=-1), least(0, x=-1, y=1))), NO)):
                self.assertEqual(self.assert_unlike(one, other, values), [y, y])

    def test_only_great_ones(self):
        for great in (GREAT, -GREAT):
            for one, other in ((least(-great, x=1), NO), (least(great, x=-1), YES),
                               (least(-great, x=3), least(-great - 9, x=3)),
                               (("or", (EVEN, least(-great, x=1))), EVEN), (("and", (EVEN, least(great, x=-1))), EVEN),
                               (("or", (rest(7, 3, x=1), ("and", (rest(7, 4, x=1), least(-great, x=1))))),
                                rest(7, 3, x=1)),
                               (("some", "z", ("and", (least(0, x=1, z=-1), least(-great, z=1)))), NO)):
                self.assert_unlike(one, other, {})
                self.assert_alike(one, ("or", (one, ("and", (NO, other)))), {})

    def test_unlike_by_steps(self):
        for one in range(1, 9):
            for other in range(1, 9):
                pair = (rest(one, 0, x=1), rest(other, 0, x=1))
                if one == other:
                    self.assert_alike(pair[0], pair[1], {})
                else:
                    self.assert_unlike(pair[0], pair[1], {})
                if one % other == 0:
                    self.assert_alike(("and", pair), pair[0], {})

    def test_the_name_nowhere(self):
        for y in (-1, 0, GREAT):
            self.assert_alike(Y, ("and", (Y, YES)), {"y": y})
            self.assert_unlike(Y, ("not", Y), {"y": y})
            (self.assert_alike if y >= 0 else self.assert_unlike)(Y, YES, {"y": y})
            (self.assert_alike if y < 0 else self.assert_unlike)(Y, ("some", "x", NO), {"y": y})
        self.assert_alike(YES, YES, {})
        self.assert_alike(NO, ("some", "x", NO), {"x": 4})
        self.assert_unlike(YES, NO, {})

    def test_bound_twice_or_also_free(self):
        self.assert_alike(("and", (X, ("some", "x", ("not", X)))), X, {"x": -5})
        self.assert_alike(("or", (EVEN, ("all", "x", X))), EVEN, {})
        self.assert_unlike(("or", (EVEN, ("some", "x", X))), EVEN, {})
        self.assert_alike(("and", (Y, ("some", "y", least(0, x=1, y=-1)))), YES, {"y": 0})
        self.assert_unlike(("and", (Y, ("some", "y", least(0, x=1, y=-1)))), YES, {"y": -1})

    def test_plain_ones_by_chance(self):
        chance = random.Random(131)
        seen = {True: 0, False: 0}
        for turn in range(4000):
            one, other = any_statement(chance, 2, PLAIN), any_statement(chance, 2, PLAIN)
            if fits(("some", "x", ("or", (one, other)))):
                values = {name: chance.choice([-2, 0, 1, GREAT]) for name in NAMES}
                near = tried(("or", (one, other)), "x", values)
                alike = all(truth(one, {**values, "x": x}) is truth(other, {**values, "x": x}) for x in near)
                seen[alike] += 1
                (self.assert_alike if alike else self.assert_unlike)(one, other, values)
        self.assertGreater(min(seen.values()), 150)

    def test_deep_ones_by_chance(self):
        chance = random.Random(132)
        seen = {True: 0, False: 0}
        while min(seen.values()) < 40:
            one = any_deep(chance, ["x", "y"], 1, chance.randrange(1, 3), 2)
            other = any_deep(chance, ["x", "y"], chance.randrange(2), chance.randrange(1, 3), 2)
            if fits(("some", "x", ("or", (one, other)))):
                values = {"y": chance.randrange(-2, 3)}
                alike = all(full_truth(one, {**values, "x": x}, 0) is full_truth(other, {**values, "x": x}, 0)
                            for x in range(-40, 41))
                seen[alike] += 1
                (self.assert_alike if alike else self.assert_unlike)(one, other, values)

    def test_a_statement_and_its_answers(self):
        """The answers, written as a statement again, are alike."""
        chance = random.Random(133)
        done = 0
        while done < 150:
            told = any_deep(chance, ["x", "y"], 1, chance.randrange(1, 3), 2)
            if fits(("some", "x", told)):
                values = {"y": chance.randrange(-3, 4)}
                step, runs = answers(told, "x", values)
                parts = []
                for left, first, last in runs:
                    part = [rest(step, -left, x=1)]
                    part += [] if first is None else [least(-first, x=1)]
                    part += [] if last is None else [least(last, x=-1)]
                    parts.append(("and", tuple(part)))
                again = ("or", tuple(parts))
                if fits(("some", "x", ("or", (told, again)))):
                    self.assert_alike(told, again, values)
                    done += 1

    def test_too_great(self):
        fifteen = ("and", tuple(("least", sum_of(place, [("x", 1)])) for place in range(15)))
        for one, other, asked in (
                (fifteen, fifteen, None), (fifteen, ("and", fifteen[1] + (X,)), TooGreat), (X, least(0, x=240), None),
                (X, least(0, x=241), TooGreat), (rest(16, 0, x=1), rest(15, 0, x=1), None),
                (rest(16, 0, x=1), rest(17, 0, x=1), TooGreat), (rest(16, 0, x=1), rest(48, 0, x=1), None),
                (YES, least(0, x=960), None), (YES, least(0, x=961), TooGreat), (NO, within(1, least(0, q0=240)), None),
                (NO, within(1, least(0, q0=241)), TooGreat), (X, within(1, least(0, q0=60)), None),
                (X, within(1, least(0, q0=61)), TooGreat), (least(0, x=60), within(1, X), None),
                (least(0, x=61), within(1, X), TooGreat), (YES, within(2, YES), TooGreat), (X, within(2, X), TooGreat),
                (("or", (X,) * 40), X, TooGreat), (("or", (YES,) * 50), NO, None), (("or", (X,) * 500), X, TooGreat),
                (least(0, x=960, y=1), YES, NoValue), (least(0, x=961, y=1), YES, TooGreat),
                (Y, within(2, Y), TooGreat), (Y, X, NoValue), (YES, ("or", (YES, Y)), NoValue),
                (("and", (NO, Y)), NO, NoValue), (Y, Y, NoValue),
                (X, ("and", (Y, ("some", "y", Y))), NoValue), (X, ("some", "y", Y), None),
                (rest(1, 0, y=1), YES, NoValue)):
            for values in ({}, {"x": 1}, {"x": GREAT, "z": 1}):
                self.assertIs(refusal(unlike, one, other, "x", values), asked, (one, other))
                self.assertIs(refusal(unlike, other, one, "x", values), asked, (one, other))
        self.assertIs(refusal(unlike, X, Y, "y", {"y": 1}), NoValue)
        self.assertIsNone(refusal(unlike, X, Y, "y", {"x": 1}))

    def test_refused_by_chance(self):
        chance = random.Random(134)
        seen = {TooGreat: 0, NoValue: 0, None: 0}
        for turn in range(2000):
            one, other = any_statement(chance, 3, FULL), any_statement(chance, 2, FULL)
            values = {name: chance.randrange(-9, 9) for name in NAMES if chance.randrange(4)}
            both = ("some", "x", ("or", (one, other)))
            asked = None
            if not fits(both) or depth(both) > 2:
                asked = TooGreat
            elif free(both) - set(values):
                asked = NoValue
            seen[asked] += 1
            self.assertIs(refusal(unlike, one, other, "x", values), asked, (one, other, values))
        self.assertGreater(min(seen.values()), 100)

    def test_as_the_sets_say(self):
        chance = random.Random(135)
        done = 0
        while done < 300:
            one, other = any_statement(chance, 3, FULL), any_statement(chance, 3, FULL)
            both = ("some", "x", ("or", (one, other)))
            if fits(both) and depth(both) == 2 and not is_plain(one):
                values = {name: chance.choice([-3, 0, 2, GREAT]) for name in NAMES}
                got = unlike(one, other, "x", values)
                sets = [answers(part, "x", values) for part in (one, other)]
                if got is None:
                    near = [end + j for runs in sets for run in runs[1] for end in run[1:] if end is not None
                            for j in range(-70, 71)]
                    for number in near + list(range(-70, 71)):
                        self.assertIs(lies_in(sets[0], number), lies_in(sets[1], number))
                else:
                    self.assertIsNot(lies_in(sets[0], got), lies_in(sets[1], got))
                done += 1


if __name__ == "__main__":
    unittest.main()
