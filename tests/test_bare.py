import itertools
import random
import time
import unittest

from making import (FULL, GREAT, NAMES, NO, PLAIN, X, Y, YES, any_statement, atom_list, faults, free,
                    full_truth, is_plain, kinds, least, rest, some_values, truth, within)
from sumlaw.bare import bare
from sumlaw.errors import TooGreat
from sumlaw.measure import depth, fits, load
from sumlaw.sums import sum_of

EVEN, ODD = rest(2, 0, x=1), rest(2, 1, x=1)
BETWEEN = ("and", (least(0, x=2, y=-1), least(0, x=-2, z=1)))


class Bare(unittest.TestCase):
    def assert_bare(self, told, valueses, far=80):
        got = bare(told)
        self.assertEqual(faults(got), [], told)
        self.assertTrue(is_plain(got))
        self.assertLessEqual(kinds(got), {tuple, str, int})
        self.assertLessEqual(free(got), free(told), told)
        seen = set()
        for values in valueses:
            asked = full_truth(told, values, far)
            self.assertIs(truth(got, values), asked, (told, values))
            seen.add(asked)
        return seen

    def about(self, told, far=9):
        names = sorted(free(told))
        far = far if len(names) < 3 else 3
        return [dict(zip(names, numbers)) for numbers in itertools.product(range(-far, far + 1), repeat=len(names))]

    def refused(self, told):
        try:
            bare(told)
        except TooGreat as refusal:
            self.assertIs(type(refusal), TooGreat)
            self.assertIsNone(refusal.__cause__ or refusal.__context__)
            return True
        return False

    def test_plain_ones(self):
        chance = random.Random(91)
        for told in (X, ("not", X), EVEN, ("not", EVEN), YES, NO, least(0), least(-1), ("and", (X, ("not", Y), YES))):
            self.assert_bare(told, self.about(told))
        for turn in range(500):
            told = any_statement(chance, 4, PLAIN)
            if len(atom_list(told)) <= 40:
                self.assert_bare(told, some_values(chance, 5))

    def test_by_hand(self):
        """Statements of y alone, and the numbers from -20 to 20 for which they are true."""
        some = range(-20, 21)
        half = ("and", (least(0, x=2, y=-1), least(0, x=-2, y=1)))
        third = ("and", (least(0, x=3, y=-1), least(0, x=-3, y=1)))
        for told, true_for in (
                (("some", "x", half), range(-20, 21, 2)), (("not", ("some", "x", half)), range(-19, 21, 2)),
                (("all", "x", ("not", half)), range(-19, 21, 2)), (("all", "x", half), []),
                (("some", "x", least(0, x=1, y=1)), some), (("all", "x", least(0, x=1, y=1)), []),
                (("all", "x", ("or", (least(0, x=1), least(0, x=-1, y=1)))), range(-1, 21)),
                (("all", "x", ("or", (X, least(0, x=-2, y=1)))), range(-2, 21)),
                (("some", "x", ("and", (X, least(0, x=-1, y=1), rest(5, 1, x=1)))), range(4, 21)),
                (("all", "x", ("or", (("not", X), least(-1, x=1, y=-1), ODD))), range(-20, 0)),
                (("some", "x", Y), range(0, 21)), (("all", "x", Y), range(0, 21)),
                (("some", "y", Y), some), (("all", "y", Y), []), (("some", "x", YES), some), (("all", "x", NO), []),
                (("some", "x", ("all", "z", ("or", (least(0, x=1, z=-1), least(0, y=1, z=1))))), some),
                (("all", "z", ("some", "x", ("and", (least(0, x=1, z=-1), least(0, x=-1, y=1))))), []),
                (("some", "x", ("some", "z", ("and", (least(-3, x=1), least(0, z=1, x=-1), least(0, z=-1, y=1))))),
                 range(3, 21)),
                (("all", "x", ("some", "z", ("and", (least(0, z=1, x=-1), rest(2, 0, z=1, y=1))))), some),
                (("all", "x", ("some", "z", ("and", (rest(4, 0, y=1, z=1), rest(2, 0, z=1))))), range(-20, 21, 2)),
                (("some", "x", ("all", "z", rest(2, 0, x=1, y=1))), some),
                (("and", (Y, ("some", "x", half))), range(0, 21, 2)),
                (("or", (("not", Y), ("all", "x", ("or", (X, least(0, x=-2, y=1)))))), some),
                (("not", ("and", (("some", "x", half), ("some", "x", third)))), [y for y in some if y % 6 != 0])):
            got = bare(told)
            self.assertEqual(faults(got), [], told)
            self.assertLessEqual(free(got), {"y"})
            self.assertEqual([y for y in some if truth(got, {"y": y})], [y for y in some if y in true_for], told)

    def test_names_bound_twice(self):
        two = ("and", (least(-2, x=1), least(2, x=-1)))
        for told in (("some", "x", ("some", "x", X)), ("all", "x", ("some", "x", X)), ("some", "x", ("all", "x", X)),
                     ("some", "x", ("and", (X, ("all", "x", least(0, x=1, y=1))))),
                     ("some", "x", ("and", (least(-5, x=1), ("some", "x", ("and", (least(1, x=-1), X)))))),
                     ("all", "x", ("or", (least(0, x=1, y=1), ("some", "x", ("not", least(0, x=1, y=1)))))),
                     ("and", (X, ("some", "x", ("not", X)))), ("and", (X, ("some", "x", BETWEEN), ("all", "y", Y))),
                     ("or", (least(-3, x=1), ("some", "x", two), EVEN)),
                     ("and", (("some", "x", least(0, x=1, y=1)), ("all", "x", ("or", (ODD, EVEN))), ODD)),
                     ("and", (least(-3, x=1), ("all", "y", ("or", (Y, least(-3, x=1, y=-1)))), Y)),
                     ("some", "y", ("and", (X, Y, ("some", "x", least(0, x=1, y=-1)))))):
            self.assert_bare(told, self.about(told))

    def test_beside_one_another(self):
        one = ("some", "x", BETWEEN)
        other = ("all", "z", ("or", (least(0, z=1, x=1), least(0, z=-1, y=1))))
        for word in ("and", "or"):
            for parts in ((one, other), (other, one, X), (("not", one), other), (("not", one), ("not", other), Y),
                          (EVEN, ("not", (word, (one, Y))), other), (one, one), (one, ("not", one))):
                told = (word, parts)
                self.assert_bare(told, self.about(told, 3))
                self.assert_bare(("not", told), self.about(told, 3))

    def test_great_numbers(self):
        numbers = [-GREAT, -GREAT + 1, -1, 0, 1, GREAT, GREAT + 1, GREAT * GREAT]
        for told in (("some", "x", ("and", (least(0, x=3, y=-GREAT), least(0, x=-3, y=GREAT)))),
                     ("all", "x", ("or", (least(-GREAT, x=1), least(0, x=-1, y=1)))),
                     ("some", "x", ("and", (least(GREAT, x=2, y=1), rest(5, GREAT, x=1), least(-GREAT, x=-1)))),
                     ("and", (rest(GREAT, 1, y=GREAT - 1), ("some", "x", rest(6, GREAT, x=2, y=GREAT)))),
                     ("not", ("some", "x", ("and", (least(0, x=7, y=-1), least(4, x=-7, y=1)))))):
            self.assert_bare(told, [{"y": y} for y in numbers])

    def test_depth_one_by_chance(self):
        chance = random.Random(92)
        seen = []
        while len(seen) < 700:
            told = (chance.choice(["some", "all"]), chance.choice("xy"), any_statement(chance, 3, PLAIN))
            if fits(told, 1):
                seen.append(self.assert_bare(told, some_values(chance, 6)))
        self.assertGreater(seen.count({True, False}), 60)

    def test_depth_two_by_chance(self):
        """All that fits with one more at this depth: few atoms, and bound names with 1 and -1 alone."""
        chance = random.Random(93)
        seen = []
        while len(seen) < 250:
            atoms = []
            for turn in range(chance.randrange(1, 5)):
                pairs = [(name, chance.choice([-1, 0, 1])) for name in "xy"] + [("z", chance.randrange(-2, 3))]
                total = sum_of(chance.randrange(-4, 5), pairs)
                atom = ("rest", chance.randrange(1, 5), total) if chance.randrange(4) == 0 else ("least", total)
                atoms.append(("not", atom) if chance.randrange(4) == 0 else atom)
            part = (chance.choice(["and", "or"]), tuple(atoms[:2]))
            told = (chance.choice(["some", "all"]), chance.choice("xy"), part)
            told = (chance.choice(["and", "or"]), (told,) + tuple(atoms[2:]))
            told = (chance.choice(["some", "all"]), chance.choice("xy"), told)
            if fits(told, 1):
                self.assertEqual(depth(told), 2)
                valueses = [{name: chance.randrange(-3, 4) for name in "xyz"} for turn in range(4)]
                seen.append(self.assert_bare(told, valueses))
        self.assertGreater(seen.count({True, False}), 20)

    def test_all_kinds_by_chance(self):
        chance = random.Random(94)
        done = 0
        while done < 500:
            told = any_statement(chance, 4, FULL)
            if not is_plain(told) and atom_list(told) and fits(told, 1):
                self.assert_bare(told, [{name: chance.randrange(-2, 3) for name in NAMES} for turn in range(3)])
                done += 1

    def test_refused(self):
        for told, asked in (
                (("and", (X,) * 40), False), (("and", (X,) * 41), True), (("or", (least(-1),) * 41), True),
                (("and", (YES,) * 100), False), (("and", (X,) * 39 + (("some", "x", X),)), False),
                (("and", (X,) * 40 + (("some", "x", X),)), True), (within(1, rest(240, 1, q0=1)), False),
                (within(1, rest(241, 1, q0=1)), True), (within(1, rest(241, 0)), True),
                (within(1, least(0, q0=-240)), False), (within(1, least(0, q0=-241)), True),
                (within(1, ("and", (X,) * 15)), False), (within(1, ("and", (X,) * 16)), True),
                (within(2, rest(18, 1, q0=1)), False), (within(2, rest(19, 1, q0=1)), True),
                (within(2, least(0, q0=1, q1=-1, x=GREAT)), False), (within(2, least(0, q0=2)), True),
                (within(2, least(0, q1=-2)), True), (within(2, ("and", (X,) * 4)), False),
                (within(2, ("and", (X,) * 5)), True), (within(3, X), True), (within(3, YES), True),
                (within(2, NO), False), (within(4, YES), True), (rest(GREAT, 1, x=GREAT), False),
                (("some", "q0", least(0, q0=1, x=GREAT)), False), (("some", "q0", rest(GREAT, 0, q0=1)), True)):
            for one in (told, ("not", told), ("or", (NO, told)), ("and", (("not", told), YES))):
                self.assertIs(fits(one, 1), not asked)
                self.assertIs(self.refused(one), asked, told)
        wide = tuple(within(1, rest(240, place, q0=1, x=1)) for place in range(3))
        self.assertFalse(self.refused(("and", wide)))
        self.assertTrue(self.refused(("and", wide + (within(1, rest(241, 1, q0=1)),))))
        self.assertTrue(self.refused(("or", (within(3, YES),) + wide)))
        self.assertTrue(self.refused(("and", (X,) * 1000)))
        self.assertTrue(self.refused(("and", (("some", "x", X),) * 1000)))

    def test_refused_by_chance(self):
        chance = random.Random(95)
        seen = {True: 0, False: 0}
        for turn in range(1500):
            told = any_statement(chance, 4, FULL)
            if depth(told) > 0:
                seen[fits(told, 1)] += 1
                self.assertIs(self.refused(told), not fits(told, 1), told)
        self.assertGreater(min(seen.values()), 200)

    def test_in_good_time(self):
        """The greatest that fits, of each kind: by forty atoms, by loads, by depth."""
        chance = random.Random(96)
        fifteen = tuple(least(place * GREAT, x=(-1) ** place, y=place * GREAT + 1, z=place + 2) for place in range(15))
        fours = [tuple(least(place, x=(-1) ** place, y=(-1) ** (place // 2), z=place - 9) for place in range(4))]
        for turn in range(30):
            fours.append(tuple(least(chance.randrange(-9, 9), x=chance.choice([-1, 1]), y=chance.choice([-1, 1]),
                                     z=chance.randrange(-99, 99), w=chance.randrange(-99, 99)) for turn in range(4)))
        mixed = (least(1, x=2, y=1), least(5, x=-3, y=2), ("not", rest(4, 1, x=1, z=1)))
        started = time.process_time()
        for word in ("some", "all"):
            forties = [tuple((word, "x", least(place, x=240, y=place + 1)) for place in range(40)),
                       tuple((word, "x", rest(240, place, x=1, y=place + 1)) for place in range(40)),
                       tuple((word, "x", ("and", (least(place, x=60, y=1), least(3, x=-60, z=place))))
                             for place in range(20)),
                       tuple((word, "x", (("and", "or")[place % 2], mixed)) for place in range(13))]
            for parts in forties:
                self.assertTrue(fits(("and", parts), 1))
                bare(("and", parts))
                bare(("not", ("or", parts)))
            for inner in ("and", "or"):
                bare((word, "x", (inner, fifteen)))
                bare((word, "x", ("or", (("and", fifteen[:7]), (inner, fifteen[7:])))))
                for other in ("some", "all"):
                    for four in fours:
                        for part in ((inner, four), (inner, (("and", four[:2]), ("or", four[2:])))):
                            self.assertEqual(load((word, "x", (other, "y", part))), 16)
                            bare((word, "x", (other, "y", part)))
                    two = (rest(4, 1, x=1, y=1, z=3), least(5, x=-1, y=1, w=8))
                    bare((word, "x", (other, "y", (inner, two))))
                    bare((word, "x", (other, "y", (inner, (rest(2, 1, x=1, y=1), two[1], least(3, x=1, y=-1, z=7))))))
                    bare((word, "x", (other, "y", ("not", rest(18, 5, x=1, y=-1, z=5)))))
        self.assertLess(time.process_time() - started, 60)

    def test_what_was_told_may_be_handed_in(self):
        small = bare(("some", "x", BETWEEN))
        self.assert_bare(small, self.about(small))
        wide = bare(("and", tuple(("some", "x", rest(120, place, x=2, y=1)) for place in range(40))))
        self.assertIs(self.refused(wide), not fits(wide, 1))
        for y in range(-3, 4):
            self.assertIs(truth(wide, {"y": y}), False)


if __name__ == "__main__":
    unittest.main()
