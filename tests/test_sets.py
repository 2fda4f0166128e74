import copy
import math
import random
import unittest

from making import (FULL, GREAT, NAMES, NO, PLAIN, X, Y, YES, any_deep, any_statement, atom_list, free, full_truth,
                    is_plain, least, lies_in, refusal, rest, set_faults, some_values, tried, truth, within)
from sumlaw.errors import NoValue, TooGreat
from sumlaw.measure import depth, fits
from sumlaw.sets import answers, how_many, inside, nearest

HUGE = 10 ** 9000
EVEN, ODD = rest(2, 0, x=1), rest(2, 1, x=1)
ALL, NONE = (1, [(0, None, None)]), (1, [])


def by_step(told_set, step):
    """The same numbers by a step that the set's own step divides."""
    runs = []
    for rest_by, first, last in told_set[1]:
        for left in range(rest_by, step, told_set[0]):
            lowest = None if first is None else first + (left - first) % step
            greatest = None if last is None else last - (last - left) % step
            if lowest is None or greatest is None or lowest <= greatest:
                runs.append((left, lowest, greatest))
    return (step, sorted(runs, key=lambda run: (run[0], run[1] is not None, run[1] or 0)))


class Answers(unittest.TestCase):
    def assert_same(self, told, values, asked):
        """The set has just the numbers of the one that is asked for, whatever its step."""
        got = answers(told, "x", values)
        self.assertEqual(set_faults(got), [], told)
        self.assertEqual(set_faults(asked), [])
        both = math.lcm(got[0], asked[0])
        self.assertEqual(merged_runs(by_step(got, both)), merged_runs(by_step(asked, both)), (told, values))

    def assert_answers(self, told, name, values, numbers, far=0):
        """Just the numbers for which it is true, by the numbers that are tried and by far ones on both sides."""
        kept = dict(values)
        got = answers(told, name, values)
        self.assertEqual(list(values.items()), list(kept.items()))
        self.assertEqual(set_faults(got), [], (told, name, values))
        for number in numbers:
            asked = full_truth(told, {**values, name: number}, far)
            self.assertIs(lies_in(got, number), asked, (told, name, values, number))
            self.assertIs(inside(got, number), asked)
        return got

    def test_by_hand(self):
        for told, asked in (
                (YES, ALL), (NO, NONE), (least(0), ALL), (least(-1), NONE), (rest(3, 1), NONE), (rest(3, 3), ALL),
                (X, (1, [(0, 0, None)])), (("not", X), (1, [(0, None, -1)])), (least(7, x=-2), (1, [(0, None, 3)])),
                (least(-7, x=2), (1, [(0, 4, None)])), (("and", (X, least(0, x=-1))), (1, [(0, 0, 0)])),
                (("and", (X, least(-1, x=-1))), NONE), (("or", (X, least(-1, x=-1))), ALL),
                (("or", (X, least(-2, x=-1))), (1, [(0, None, -2), (0, 0, None)])),
                (EVEN, (2, [(0, None, None)])), (ODD, (2, [(1, None, None)])), (("not", EVEN), (2, [(1, None, None)])),
                (("or", (EVEN, ODD)), ALL), (("and", (EVEN, ODD)), NONE), (rest(4, 2, x=2), (2, [(1, None, None)])),
                (("and", (EVEN, X)), (2, [(0, 0, None)])), (("and", (ODD, X)), (2, [(1, 1, None)])),
                (("and", (ODD, X, least(9, x=-1))), (2, [(1, 1, 9)])),
                (("and", (EVEN, least(9, x=-1))), (2, [(0, None, 8)])),
                (("or", (EVEN, X)), (2, [(0, None, None), (1, 1, None)])),
                (("and", (rest(3, 1, x=1), ODD)), (6, [(5, None, None)])),
                (("or", (("and", (X, least(3, x=-1))), ("and", (least(-4, x=1), least(6, x=-1))))), (1, [(0, 0, 6)])),
                (("or", (("and", (X, least(3, x=-1))), ("and", (least(-5, x=1), least(6, x=-1))))),
                 (1, [(0, 0, 3), (0, 5, 6)])),
                (("and", (("not", rest(3, 0, x=1)), X, least(5, x=-1))), (3, [(1, 1, 4), (2, 2, 5)])),
                (rest(960, 17, x=1), (960, [(943, None, None)])),
                (("some", "y", ("and", (least(0, x=1, y=-2), least(0, x=-1, y=2)))), (2, [(0, None, None)])),
                (("all", "y", ("or", (Y, least(-1, x=1, y=-3)))), (1, [(0, -2, None)])),
                (("all", "y", ("not", ("and", (Y, least(0, x=1, y=-1), rest(4, 3, y=1))))), (1, [(0, None, 0)])),
                (("and", (EVEN, ("some", "y", ("and", (least(0, x=1, y=-3), least(0, x=-1, y=3), Y))))),
                 (6, [(0, 0, None)]))):
            for values in ({}, {"x": 5}, {"x": -GREAT, "y": 3, "zz": 1}):
                self.assert_same(told, values, asked)
                self.assert_same(("not", ("not", told)), values, asked)

    def test_values(self):
        for y in (0, 1, -1, 5, -8, GREAT, -GREAT, HUGE, -HUGE):
            for values in ({"y": y}, {"y": y, "x": 7, "a": 1}):
                self.assert_same(least(0, x=1, y=-1), values, (1, [(0, y, None)]))
                self.assert_same(least(0, x=-1, y=1), values, (1, [(0, None, y)]))
                self.assert_same(least(0, x=3, y=-1), values, (1, [(0, -(-y // 3), None)]))
                self.assert_same(least(0, x=-3, y=1), values, (1, [(0, None, y // 3)]))
                exact = ("and", (least(0, x=3, y=-1), least(0, x=-3, y=1)))
                self.assert_same(exact, values, (1, [(0, y // 3, y // 3)]) if y % 3 == 0 else NONE)
                self.assert_same(rest(5, 0, x=1, y=-1), values, (5, [(y % 5, None, None)]))
                self.assert_same(("and", (least(0, x=1, y=-1), rest(5, 0, x=1))), values,
                                 (5, [(0, y + -y % 5, None)]))
                self.assert_same(("or", (least(-1, x=-1, y=1), least(-1, x=1, y=-1))), values,
                                 (1, [(0, None, y - 1), (0, y + 1, None)]))
                self.assert_same(Y, values, ALL if y >= 0 else NONE)
                self.assert_same(rest(3, 1, y=1), values, ALL if y % 3 == 2 else NONE)
                self.assert_same(("some", "z", ("and", (least(0, z=1, y=-1), least(0, z=-2, x=1)))), values,
                                 (1, [(0, 2 * y, None)]))
                inner = ("all", "y", ("or", (least(0, x=1, y=-1), least(-2, y=1))))
                self.assert_same(inner, values, (1, [(0, 1, None)]))
                self.assert_same(("and", (least(0, x=-1, y=1), inner)), values, (1, [(0, 1, y)]) if y >= 1 else NONE)

    def test_a_name_that_is_not_free_or_bound_within(self):
        for y in (-1, 0, GREAT):
            for told in (("some", "x", X), Y, ("some", "x", least(0, x=1, y=1)), ("all", "x", ("or", (EVEN, ODD, Y))),
                         ("all", "x", X), ("and", (Y, ("some", "x", ("not", X)))), rest(2, 0, y=1)):
                asked = ALL if full_truth(told, {"y": y}, 0) else NONE
                self.assert_same(told, {"y": y}, asked)
                self.assert_same(told, {"y": y, "x": 5}, asked)
        self.assert_same(("and", (X, ("some", "x", ("not", X)))), {}, (1, [(0, 0, None)]))
        self.assert_same(("or", (EVEN, ("all", "x", X))), {"x": 1}, (2, [(0, None, None)]))
        self.assert_same(("all", "y", ("or", (EVEN, ("not", Y)))), {}, (2, [(0, None, None)]))

    def test_plain_ones_by_chance(self):
        chance = random.Random(121)
        kinds = {"none": 0, "all": 0, "some": 0}
        for turn in range(1200):
            told = any_statement(chance, 4, PLAIN)
            name = chance.choice(NAMES)
            if fits(("some", name, told)):
                for values in some_values(chance, 1):
                    near = tried(told, name, values)
                    step = math.lcm(*[atom[1] for atom in atom_list(told) if atom[0] == "rest"])
                    far = list(range(min(near) - step, min(near))) + list(range(max(near) + 1, max(near) + step + 1))
                    got = self.assert_answers(told, name, values, near + far)
                    self.assert_ends(got, told, name, values)
                    kinds["none" if not got[1] else "all" if got == ALL else "some"] += 1
        self.assertGreater(min(kinds.values()), 60, kinds)

    def assert_ends(self, got, told, name, values):
        """None just where there is no end: far out it is true for all numbers of the rest, or for none."""
        for left in range(got[0]):
            for far in (10 ** 900, -10 ** 900):
                number = far - (far - left) % got[0]
                self.assertIs(lies_in(got, number), truth(told, {**values, name: number}), (told, values))

    def test_deep_ones_by_chance(self):
        chance = random.Random(122)
        steps = {}
        done = 0
        while done < 500:
            told = any_deep(chance, ["x", "y"], 1, chance.randrange(1, 5), 2)
            if depth(told) == 1 and fits(("some", "x", told)) and "x" in free(told):
                values = {"y": chance.choice([0, 1, -2, 4])}
                got = self.assert_answers(told, "x", values, range(-45, 46))
                steps[got[0]] = steps.get(got[0], 0) + 1
                done += 1
        self.assertGreater(len(steps), 4, steps)

    def test_all_kinds_by_chance(self):
        chance = random.Random(123)
        done = 0
        while done < 300:
            told = any_statement(chance, 4, FULL)
            if not is_plain(told) and depth(told) == 1 and fits(("some", "x", told)):
                values = {name: chance.randrange(-2, 3) for name in NAMES}
                self.assert_answers(told, "x", values, range(-20, 21))
                done += 1

    def test_many_runs_by_chance(self):
        """Ors of narrow runs, by one rest or several: some overlap, some touch one another, some lie apart."""
        chance = random.Random(126)
        counts = {}
        for turn in range(400):
            step = chance.choice([1, 1, 1, 2, 3])
            spread = chance.choice([10, 20, 60])
            parts = []
            for place in range(chance.randrange(1, 15 if step == 1 else 5)):
                first = chance.randrange(-spread, spread)
                part = (least(-first, x=1), least(first + chance.randrange(6), x=-1))
                parts.append(("and", part if step == 1 else part + (rest(step, chance.randrange(step), x=1),)))
            told = ("or", tuple(parts))
            self.assertTrue(fits(("some", "x", told)))
            numbers = range(-spread - 10, spread + 10)
            got = self.assert_answers(told, "x", {}, numbers)
            counts[len(got[1])] = counts.get(len(got[1]), 0) + 1
            other = self.assert_answers(("not", told), "x", {}, numbers)
            self.assertEqual(how_many(got), sum(truth(told, {"x": number}) for number in numbers))
            self.assertIsNone(how_many(other))
        self.assertGreater(sum(counts.get(count, 0) for count in range(3, 12)), 150)

    def test_moved_far_out(self):
        """The same numbers, moved by a great value."""
        for far in (GREAT, -GREAT, HUGE):
            for told, asked in ((("and", (rest(3, 1, x=1, y=-1), least(0, x=1, y=-1))), (3, [(2, 2, None)])),
                                (("or", (least(-4, x=-1, y=1), rest(2, 1, x=1, y=1))),
                                 (2, [(0, None, -4), (1, None, None)])),
                                (("and", (least(4, x=-1, y=1), least(4, x=1, y=-1))), (1, [(0, -4, 4)]))):
                moved = (asked[0], sorted([((left + far) % asked[0], first if first is None else first + far,
                                            last if last is None else last + far) for left, first, last in asked[1]],
                                          key=lambda run: run[0]))
                self.assert_same(told, {"y": 0}, asked)
                self.assert_same(told, {"y": far}, moved)

    def test_the_greatest_steps(self):
        for told in (rest(960, 1, x=1), ("not", rest(960, 1, x=1)), rest(960, 7, x=1, y=5)):
            got = self.assert_answers(told, "x", {"y": 3}, range(-1000, 1001))
            self.assertEqual(got[0], 960)
        self.assert_same(("some", "y", rest(120, 0, x=1, y=2)), {}, (2, [(0, None, None)]))
        self.assert_same(("some", "y", rest(240, 7, x=1)), {}, (240, [(233, None, None)]))
        told = ("some", "y", ("and", (least(0, x=1, y=-60), least(0, x=-1, y=60))))
        self.assert_same(told, {}, (60, [(0, None, None)]))
        self.assertTrue(fits(("some", "x", told)))

    def test_a_new_list_each_time(self):
        for told in (X, NO, YES, EVEN, ("and", (X, EVEN, least(9, x=-1)))):
            one, other = answers(told, "x", {}), answers(told, "x", {})
            self.assertEqual(one, other)
            self.assertIsNot(one[1], other[1])
            kept = copy.deepcopy(one)
            one[1].append((0, 1, 1))
            one[1].reverse()
            self.assertEqual(other, kept)
            self.assertEqual(answers(told, "x", {}), kept)
            other[1].clear()
            self.assertEqual(answers(told, "x", {}), kept)

    def test_too_great(self):
        for told, asked in ((least(0, x=960), None), (least(0, x=961), TooGreat), (rest(960, 1, x=1), None),
                            (rest(961, 1, x=1), TooGreat), (rest(960, 7), None), (rest(961, 0), TooGreat),
                            (least(0, y=961), NoValue), (("and", (X,) * 30), None), (("and", (X,) * 31), TooGreat),
                            (("or", (X,) * 41), TooGreat), (("or", (YES,) * 41), None), (("or", (X,) * 1000), TooGreat),
                            (within(1, least(0, x=240)), None), (within(1, least(0, x=241)), TooGreat),
                            (within(1, least(0, x=1, q0=240)), None), (within(1, least(0, x=1, q0=-241)), TooGreat),
                            (within(1, rest(240, 1, x=1)), None), (within(1, rest(241, 1, x=1)), TooGreat),
                            (("and", (within(1, least(1, q0=1)), least(0, x=60))), None),
                            (("and", (within(1, least(1, q0=1)), least(0, x=61))), TooGreat),
                            (within(2, YES), TooGreat), (within(2, least(0, x=1)), TooGreat),
                            (within(3, YES), TooGreat), (within(2, rest(18, 1, x=1)), TooGreat),
                            (("or", (YES, within(2, NO))), TooGreat),
                            (("and", (NO, within(1, within(1, NO)))), TooGreat), (within(1, YES), None)):
            for one in (told, ("not", told), ("or", (NO, told)), ("and", (told, YES))):
                self.assertIs(refusal(answers, one, "x", {}), asked, told)
                self.assertIs(refusal(answers, one, "x", {"x": 3}), asked, told)
        self.assertIs(refusal(answers, ("or", (X,) * 31), "y", {"x": 1}), TooGreat)
        self.assertIsNone(refusal(answers, least(0, x=961, y=1), "y", {"x": 1}))
        self.assertIs(refusal(answers, least(0, x=961, y=1), "x", {"y": 1}), TooGreat)

    def test_too_great_goes_ahead_of_no_value(self):
        for told, asked in ((least(0, x=961, y=1), TooGreat), (least(0, x=960, y=1), NoValue),
                            (("and", (Y,) * 31), TooGreat), (("and", (Y,) * 30), NoValue),
                            (within(2, Y), TooGreat), (within(1, Y), NoValue), (rest(961, 0, y=1), TooGreat)):
            self.assertIs(refusal(answers, told, "x", {}), asked)
            self.assertIs(refusal(answers, told, "x", {"x": 1, "z": 2}), asked)

    def test_no_value(self):
        for told in (Y, ("or", (YES, Y)), ("and", (NO, Y)), rest(1, 0, y=1), ("some", "z", least(0, x=1, y=1, z=1)),
                     ("some", "x", Y), ("and", (Y, ("some", "y", Y))), ("or", (X, ("not", X), Y)), least(0, a=1, y=1),
                     ("and", (Y, least(-1, y=-1))), ("all", "z", ("or", (YES, Y)))):
            for values in ({"a": 1}, {"a": 1, "x": 4}):
                self.assertIs(refusal(answers, told, "x", values), NoValue, told)
                self.assertIsNone(refusal(answers, told, "x", {**values, "y": 4}))
        self.assertIs(refusal(answers, X, "y", {"y": 4}), NoValue)
        self.assertIsNone(refusal(answers, ("some", "y", Y), "x", {}))

    def test_refused_by_chance(self):
        chance = random.Random(124)
        seen = {TooGreat: 0, NoValue: 0, None: 0}
        for turn in range(1500):
            told = any_statement(chance, 4, FULL)
            values = {name: chance.randrange(-9, 9) for name in NAMES if chance.randrange(3)}
            asked = None
            if not fits(("some", "x", told)) or depth(told) > 1:
                asked = TooGreat
            elif free(told) - {"x"} - set(values):
                asked = NoValue
            seen[asked] += 1
            self.assertIs(refusal(answers, told, "x", values), asked, (told, values))
        self.assertGreater(min(seen.values()), 100)


def merged_runs(told_set):
    """Runs of one rest that touch one another, as one."""
    step, runs = told_set
    found = []
    for left, first, last in runs:
        if found and found[-1][0] == left and first is not None and first == found[-1][2] + step:
            found[-1] = (left, found[-1][1], last)
        else:
            found.append((left, first, last))
    return found


MADE = [(1, []), (960, []), (1, [(0, None, None)]), (1, [(0, 3, None)]), (1, [(0, None, -3)]), (1, [(0, 0, 0)]),
        (1, [(0, -4, 7)]), (1, [(0, None, -9), (0, -7, -7), (0, 0, 5), (0, 8, None)]), (2, [(0, None, None)]),
        (2, [(1, None, None)]), (2, [(0, None, 4), (1, -3, None)]),
        (3, [(0, -6, 9), (1, 1, 1), (1, 7, 13), (2, 2, None)]),
        (7, [(6, -1, -1)]), (7, [(0, -7, 0), (0, 14, 14), (3, None, -4), (3, 10, None), (6, 6, 20)]),
        (10, [(9, -1, 29), (9, 49, 59)]), (50, [(7, -93, 57)]), (960, [(0, None, None), (959, -1, 959)]),
        (4, [(0, None, None), (1, None, None), (2, None, None), (3, None, None)]),
        (1, [(0, 5, 5), (0, 7, 7), (0, 9, 9)])]


class Sets(unittest.TestCase):
    def test_what_is_asked_of_sets(self):
        for one in MADE:
            self.assertEqual(set_faults(one), [], one)
            kept = copy.deepcopy(one)
            inner = [number for number in range(-3000, 3001) if lies_in(one, number)]
            ends = [end for run in one[1] for end in run[1:]]
            if None in ends:
                self.assertIsNone(how_many(one), one)
            else:
                self.assertEqual(how_many(one), len(inner), one)
            for number in range(-100, 101):
                self.assertIs(inside(one, number), number in inner, (one, number))
                asked = [other for other in inner if other >= number]
                self.assertEqual(nearest(one, number), asked[0] if asked else None, (one, number))
            self.assertEqual(one, kept)

    def test_kinds(self):
        for one in MADE:
            self.assertIs(type(inside(one, 5)), bool)
            self.assertIn(type(nearest(one, 5)), (int, type(None)))
            self.assertIn(type(how_many(one)), (int, type(None)))

    def test_of_any_size(self):
        for great in (GREAT, -GREAT, HUGE, -HUGE):
            for step in (1, 2, 7, 960):
                left = great % step
                one = (step, [(left, great, great + 5 * step), (left, great + 7 * step, great + 7 * step)])
                self.assertEqual(how_many(one), 7)
                for j in range(-3, 11):
                    number = great + j * step
                    self.assertIs(inside(one, number), 0 <= j <= 5 or j == 7)
                    self.assertEqual(nearest(one, number), great if j < 0 else number if j <= 5 or j == 7 else
                                     great + 7 * step if j == 6 else None)
                    if step > 1:
                        self.assertIs(inside(one, number + 1), False)
                        self.assertIs(inside(one, number - 1), False)
                        self.assertEqual(nearest(one, number - 1), nearest(one, number))
                self.assertEqual(nearest((step, [(left, great, None)]), great + 1), great + step)
                self.assertEqual(nearest((step, [(left, great, None)]), great), great)
                self.assertEqual(nearest((step, [(left, great, None)]), great - 9 ** 9999), great)
                self.assertEqual(nearest((step, [(left, None, great)]), great), great)
                self.assertIsNone(nearest((step, [(left, None, great)]), great + 1))
                self.assertEqual(nearest((step, [(left, None, great)]), great - step * HUGE + 1 - step),
                                 great - step * HUGE)
                self.assertIs(inside((step, [(left, None, great)]), great - step * HUGE), True)
                self.assertEqual(how_many((step, [(left, great - step * HUGE, great)])), HUGE + 1)
                self.assertIsNone(how_many((step, [(left, None, great)])))
                self.assertIsNone(how_many((step, [(left, great, None)])))

    def test_without_end_in_one_run_alone(self):
        self.assertIsNone(how_many((2, [(0, 0, 4), (1, 3, None)])))
        self.assertIsNone(how_many((2, [(0, None, 4), (1, 3, 5)])))
        self.assertIsNone(how_many((2, [(0, None, None), (1, 3, 5)])))
        self.assertEqual(how_many((2, [(0, 0, 4), (1, 3, 3)])), 4)

    def test_many_runs(self):
        """As many as a list may have."""
        runs = [(0, 10 * place, 10 * place + 4) for place in range(2000)]
        self.assertEqual(how_many((1, runs)), 10000)
        self.assertEqual(nearest((1, runs), 19985), 19990)
        self.assertIsNone(nearest((1, runs), 19995))
        self.assertIs(inside((1, runs), 19994), True)
        wide = [(left, left, left + 960) for left in range(960)]
        self.assertEqual(how_many((960, wide)), 1920)
        self.assertEqual(nearest((960, wide), -5), 0)

    def test_sets_by_chance(self):
        chance = random.Random(125)
        for turn in range(200):
            step = chance.randrange(1, 9)
            runs = []
            for left in sorted(chance.sample(range(step), chance.randrange(step + 1))):
                turns = sorted(chance.sample(range(-9, 10), 2 * chance.randrange(3)))
                for first, last in zip(turns[::2], turns[1::2]):
                    if runs and runs[-1][0] == left and left + step * first < runs[-1][2] + 2 * step:
                        continue
                    runs.append((left, left + step * first, left + step * last))
            one = (step, runs)
            self.assertEqual(set_faults(one), [])
            inner = [number for number in range(-100, 101) if lies_in(one, number)]
            self.assertEqual(how_many(one), len(inner))
            for number in range(-100, 101):
                self.assertIs(inside(one, number), number in inner)
                self.assertEqual(nearest(one, number), min([other for other in inner if other >= number], default=None))

    def test_told_sets(self):
        told = ("and", (EVEN, least(20, x=-1), ("or", (least(-8, x=1), least(0, x=-1)))))
        one = answers(told, "x", {})
        self.assertIsNone(how_many(one))
        self.assertEqual([number for number in range(-5, 25) if inside(one, number)],
                         [-4, -2, 0] + list(range(8, 21, 2)))
        self.assertEqual([nearest(one, number) for number in (-4, -3, 0, 1, 8, 20)], [-4, -2, 0, 8, 8, 20])
        self.assertIsNone(nearest(one, 21))
        self.assertEqual(how_many(answers(("and", (told, X)), "x", {})), 8)
        self.assertEqual(how_many(answers(NO, "x", {})), 0)


if __name__ == "__main__":
    unittest.main()
