import math
import random
import unittest

from making import FULL, GREAT, NO, PLAIN, X, Y, YES, any_statement, atom_list, least, nested, rest
from sumlaw.measure import atoms, depth, fits, load

R = rest(3, 1, x=2)


def many(count, atom):
    return ("and", (atom,) * count)


def within(count, part):
    """This many somes and alls by turns, around a part, with names that stand nowhere else."""
    for turn in range(count):
        part = (("some", "all")[turn % 2], "q" + str(turn), part)
    return part


def bound(told):
    if told[0] in ("least", "rest"):
        return set()
    if told[0] in ("and", "or"):
        return set().union(*[bound(part) for part in told[1]])
    return bound(told[-1]) | ({told[1]} if told[0] in ("some", "all") else set())


def reckoned_depth(told):
    if told[0] in ("least", "rest"):
        return 0
    if told[0] in ("and", "or"):
        return max([0] + [reckoned_depth(part) for part in told[1]])
    return reckoned_depth(told[-1]) + (told[0] != "not")


def reckoned_shares(told):
    found = atom_list(told)
    names = bound(told)
    c = math.lcm(*[k for atom in found for name, k in atom[-1][1] if name in names])
    return len(found), c, math.lcm(*[atom[1] for atom in found if atom[0] == "rest"])


def reckoned_load(told):
    n, c, m = reckoned_shares(told)
    return n * n * c * m


def outermost(told):
    if told[0] in ("some", "all"):
        return [told]
    if told[0] in ("least", "rest"):
        return []
    parts = told[1] if told[0] != "not" else [told[1]]
    return [one for part in parts for one in outermost(part)]


def reckoned_fits(told, more):
    if len(atom_list(told)) > 40:
        return False
    for one in outermost(told):
        d = reckoned_depth(one) + more
        c = reckoned_shares(one)[1]
        most = {1: 960, 2: 240, 3: 18 if c == 1 else -1}.get(d, -1)
        if reckoned_load(one) > most:
            return False
    return True


class Atoms(unittest.TestCase):
    def test_each_as_often_as_it_is_written(self):
        for told, asked in ((X, 1), (R, 1), (least(0), 1), (YES, 0), (NO, 0), (("not", X), 1), (("not", YES), 0),
                            (("and", (X, X, X)), 3), (("or", (X, ("not", ("and", (X, R, Y))))), 4),
                            (("some", "x", X), 1), (("all", "x", ("some", "y", ("and", (X, X)))), 2),
                            (("and", (("some", "x", X), ("all", "x", YES), X)), 2), (many(1000, X), 1000)):
            self.assertEqual(atoms(told), asked, told)
            self.assertIs(type(atoms(told)), int)


class Depth(unittest.TestCase):
    def test_each_kind(self):
        one, two, three = ("some", "x", X), ("all", "y", ("some", "x", X)), within(3, X)
        for told, asked in ((X, 0), (R, 0), (YES, 0), (NO, 0), (("not", X), 0), (("and", (X, R)), 0), (one, 1),
                            (("all", "x", YES), 1), (two, 2), (three, 3), (("not", two), 2), (("and", (one, X)), 1),
                            (("or", (X, one, two, one)), 2), (("and", (two, one)), 2), (("or", (one, one, one)), 1),
                            (("some", "x", ("and", (one, X, ("not", two)))), 3), (("some", "x", one), 2),
                            (("not", ("not", ("all", "x", ("not", one)))), 2), (within(20, YES), 20)):
            self.assertEqual(depth(told), asked, told)
            self.assertIs(type(depth(told)), int)


class Load(unittest.TestCase):
    def test_atoms_alone(self):
        for n in (0, 1, 2, 3, 10, 31):
            for word in ("some", "all"):
                self.assertEqual(load((word, "x", many(n, X))), n * n)
                self.assertEqual(load((word, "z", many(n, least(5)))), n * n)
        for told in (("some", "x", YES), ("all", "x", NO), ("some", "x", ("all", "y", ("not", YES)))):
            self.assertEqual(load(told), 0)

    def test_numbers_of_bound_names(self):
        for told, asked in (
                (("some", "x", least(7, x=6)), 6), (("all", "x", least(7, x=-6)), 6), (("some", "y", least(7, x=6)), 1),
                (("some", "x", ("and", (least(0, x=4), least(0, x=-6)))), 4 * 12),
                (("some", "x", ("and", (least(0, x=4, y=5), ("not", least(0, x=6, y=7))))), 4 * 12),
                (("some", "x", ("all", "y", ("or", (least(0, x=4, y=-5), least(0, x=6))))), 4 * 60),
                (("all", "y", least(0, x=4, y=5, z=9)), 5), (("some", "x", least(GREAT, x=-GREAT)), GREAT),
                (("some", "x", ("and", (least(0, x=GREAT), least(0, x=2 * GREAT)))), 8 * GREAT)):
            self.assertEqual(load(told), asked, told)

    def test_a_name_counts_whether_or_not_it_belongs_to_that_one(self):
        inner = ("some", "y", least(0, y=3))
        for told, asked in (
                (("some", "x", ("and", (inner, least(0, y=5)))), 4 * 15),
                (("some", "x", ("and", (least(0, y=5), inner, least(0, z=7)))), 9 * 15),
                (("all", "x", ("or", (("some", "y", YES), least(0, y=5, x=2)))), 10),
                (("some", "x", ("and", (("not", ("all", "x", least(0, x=2))), least(0, x=3)))), 4 * 6),
                (("all", "x", ("and", (("some", "y", X), ("some", "z", least(0, y=2, z=3, w=5))))), 4 * 6)):
            self.assertEqual(load(told), asked, told)
        self.assertEqual(load(inner), 3)

    def test_names_bound_outside_do_not_count(self):
        inner = ("some", "y", least(0, x=7, y=2))
        self.assertEqual(load(inner), 2)
        self.assertEqual(load(("all", "x", inner)), 14)

    def test_rests(self):
        for told, asked in (
                (("some", "x", rest(6, 1, x=1)), 6), (("some", "x", rest(6, 1, y=4)), 6), (("all", "x", rest(9, 0)), 9),
                (("some", "x", ("and", (rest(4, 0, x=1), rest(6, 0, y=1)))), 4 * 12),
                (("some", "x", ("not", rest(4, 0, x=6))), 24), (("some", "x", rest(1, 0, x=1)), 1),
                (("all", "x", ("or", (rest(4, 0, x=-3), least(1, x=2), YES, ("some", "y", rest(5, 0))))), 9 * 6 * 20),
                (("some", "x", rest(GREAT, 3, x=-2)), 2 * GREAT)):
            self.assertEqual(load(told), asked, told)
            self.assertIs(type(load(told)), int)

    def test_many_against_another_reckoning(self):
        chance = random.Random(41)
        for turn in range(1000):
            told = any_statement(chance, 5, FULL)
            self.assertEqual(atoms(told), len(atom_list(told)))
            self.assertEqual(depth(told), reckoned_depth(told))
            told = (chance.choice(["some", "all"]), chance.choice("abxy"), told)
            self.assertEqual(load(told), reckoned_load(told), told)

    def test_sizes(self):
        told = ("all", "x", ("and", tuple(rest(10 ** 199 + place, 0, x=10 ** 199 - place) for place in range(1, 201))))
        self.assertEqual(load(told), reckoned_load(told))
        self.assertFalse(fits(told))
        for deep in (20, 40):
            told = within(1, nested(deep, R))
            self.assertEqual(load(told), reckoned_load(told))
            self.assertEqual(depth(told), reckoned_depth(told))


class Fits(unittest.TestCase):
    def assert_fits(self, told, asked, more):
        self.assertIs(fits(told, more), asked, (told, more))
        self.assertIs(fits(told, more=more), asked)
        if more == 0:
            self.assertIs(fits(told), asked)

    def about(self, part):
        """The statement, and with it within a not, an and, an or, and beside plain ones."""
        deeper = ("not", ("or", (NO, ("and", (part,)))))
        return [part, ("not", part), ("and", (X, part)), ("or", (part, R, YES)), deeper]

    def test_forty_atoms(self):
        for more in (0, 1):
            for count, asked in ((0, True), (1, True), (39, True), (40, True), (41, False), (1000, False)):
                self.assert_fits(many(count, rest(GREAT, 1, x=GREAT)), asked, more)
                self.assert_fits(("not", ("or", (NO, many(count, X)))), asked, more)
                if count > 0:
                    self.assert_fits(("or", (many(count - 1, X), ("some", "x", Y))), asked, more)
                    self.assert_fits(("and", (("all", "x", YES), many(count, Y))), asked, more)
        self.assert_fits(("and", (many(30, X), many(11, X))), False, 0)

    def test_loads_by_depth(self):
        for deep, most in ((1, 960), (2, 240), (3, 18)):
            for beside, asked in ((-1, True), (0, True), (1, False)):
                for more in (0, 1) if deep > 1 else (0,):
                    for told in self.about(within(deep - more, rest(most + beside, 0, x=5))):
                        self.assert_fits(told, asked, more)

    def test_loads_of_numbers(self):
        for deep, most in ((1, 960), (2, 240)):
            for beside, asked in ((-1, True), (0, True), (1, False)):
                told = ("some", "x", within(deep - 1, least(0, x=-most - beside, y=7)))
                for part in self.about(told):
                    self.assert_fits(part, asked, 0)
                if deep == 2:
                    self.assert_fits(("all", "x", least(0, x=most + beside)), asked, 1)

    def test_loads_of_atoms(self):
        for deep, count, asked in ((1, 30, True), (1, 31, False), (2, 15, True), (2, 16, False), (3, 4, True),
                                   (3, 5, False)):
            self.assert_fits(within(deep, many(count, Y)), asked, 0)
            if deep > 1:
                self.assert_fits(within(deep - 1, many(count, Y)), asked, 1)
        self.assert_fits(("some", "x", many(4, rest(12, 0, x=5))), True, 0)
        self.assert_fits(("some", "x", many(4, rest(13, 0, x=5))), False, 0)
        self.assert_fits(within(3, many(3, rest(2, 0, x=1))), True, 0)
        self.assert_fits(within(3, many(3, rest(3, 0, x=1))), False, 0)

    def test_numbers_at_depth_three(self):
        for k, asked in ((1, True), (-1, True), (2, False), (-2, False)):
            for name in ("q0", "q1", "q2"):
                atom = ("least", (0, ((name, k),)))
                for part in self.about(within(3, atom)):
                    self.assert_fits(part, asked, 0)
                self.assert_fits(within(4, atom), False, 0)
                self.assert_fits(within(3, atom), False, 1)
                if name != "q2":
                    self.assert_fits(within(2, atom), asked, 1)
                    self.assert_fits(within(2, atom), True, 0)
        self.assert_fits(within(3, least(0, x=2)), True, 0)
        self.assert_fits(within(3, rest(2, 0, q0=1)), True, 0)

    def test_too_deep_also_without_atoms(self):
        for deep, asked in ((1, True), (2, True), (3, True), (4, False), (20, False)):
            self.assert_fits(within(deep, YES), asked, 0)
            self.assert_fits(within(deep, NO), asked and deep < 3, 1)

    def test_each_by_itself(self):
        right, wrong = ("some", "x", rest(960, 0, x=1)), ("all", "x", rest(961, 0, x=1))
        two, too_much = within(2, rest(240, 0, x=1)), within(2, rest(241, 0, x=1))
        self.assert_fits(("and", (right, two, right, X, within(3, rest(18, 0)))), True, 0)
        self.assert_fits(("or", (right, rest(961, 0, x=2), least(0, x=961), right)), True, 0)
        for bad in (wrong, too_much, within(3, rest(19, 0)), within(4, YES)):
            for parts in ((bad, right), (right, bad), (right, two, bad), (right, ("not", ("and", (X, bad))), right)):
                self.assert_fits(("and", parts), False, 0)
                self.assert_fits(("or", parts), False, 0)

    def test_only_those_within_no_other_one(self):
        inner = ("some", "y", least(0, x=1, y=1))
        told = ("all", "x", ("and", (inner, rest(48, 0, x=1))))
        self.assertEqual((load(inner), load(told)), (1, 192))
        self.assert_fits(told, True, 0)
        self.assert_fits(told, False, 1)
        self.assert_fits(inner, True, 1)
        self.assert_fits(("all", "x", ("and", (inner, rest(60, 0, x=1)))), True, 0)
        self.assert_fits(("all", "x", ("and", (inner, rest(61, 0, x=1)))), False, 0)

    def test_many_against_another_reckoning(self):
        chance = random.Random(42)
        seen = {True: 0, False: 0}
        for turn in range(3000):
            told = any_statement(chance, 4, FULL + ["some", "all"])
            for more in (0, 1):
                asked = reckoned_fits(told, more)
                seen[asked] += outermost(told) != []
                self.assert_fits(told, asked, more)
        self.assertGreater(min(seen.values()), 500)

    def test_plain_ones(self):
        chance = random.Random(43)
        for turn in range(500):
            told = any_statement(chance, 4, PLAIN)
            for more in (0, 1):
                self.assert_fits(told, len(atom_list(told)) <= 40, more)


if __name__ == "__main__":
    unittest.main()
