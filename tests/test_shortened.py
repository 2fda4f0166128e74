import itertools
import math
import random
import unittest

from making import (GREAT, NAMES, NO, PLAIN, X, Y, YES, any_statement, atom_list, faults, free, kinds, least, rest,
                    some_values, truth)
from sumlaw.shortened import shortened
from sumlaw.sums import sum_of
from sumlaw.trees import tree_of

R = rest(3, 1, x=2)


def asked_least(c, pairs):
    """What a least alone becomes, reckoned another way."""
    if not pairs:
        return YES if c >= 0 else NO
    g = math.gcd(*[k for name, k in pairs])
    return ("least", sum_of(math.floor(c / g), [(name, k // g) for name, k in pairs]))


def asked_rest(m, c, pairs):
    """What a rest alone becomes, reckoned another way."""
    g = math.gcd(m, *[k for name, k in pairs])
    if math.gcd(c, g) != g:
        return NO
    if m == g:
        return YES

    def left(number):
        return next(one for one in range(m // g) if (number // g - one) % (m // g) == 0)
    return ("rest", m // g, sum_of(left(c), [(name, left(k)) for name, k in pairs]))


class Faults(unittest.TestCase):
    """That the tests below see what is not short."""

    def test_each_letter(self):
        for letter, told in (
                ("a", ("not", X)), ("a", ("not", YES)), ("a", ("and", (Y, ("not", ("not", R))))), ("b", ("and", (X,))),
                ("b", ("or", (X, ("and", ())))), ("c", ("and", (X, ("and", (Y, R))))), ("d", ("or", (R, X, R))),
                ("d", ("and", (X, Y, X))), ("e", least(1)), ("e", least(1, x=2, y=-4)), ("e", least(1, x=-2)),
                ("f", rest(1, 0, x=1)), ("f", rest(3, 0)), ("f", rest(3, 3, x=1)), ("f", rest(3, -1, x=1)),
                ("f", rest(3, 0, x=3, y=1)), ("f", rest(3, 0, x=-1)), ("f", rest(6, 0, x=2, y=4)),
                ("f", ("not", rest(4, 0, x=2))), ("g", ("or", (least(1, x=1), Y, least(2, x=1))))):
            self.assertEqual(set(faults(told)), {letter}, told)
        for told in (YES, NO, X, R, ("not", R), ("and", (X, Y, R, ("not", R), ("or", (X, least(1, x=1, y=1)))))):
            self.assertEqual(faults(told), [])


class Shortened(unittest.TestCase):
    def assert_short(self, told, valueses):
        """All that is promised of what a statement is shortened to, and of what that is shortened to."""
        first = told
        for turn in range(2):
            got = shortened(told)
            self.assertEqual(faults(got), [], first)
            self.assertLessEqual(len(atom_list(got)), len(atom_list(told)), first)
            self.assertLessEqual(free(got), free(told), first)
            for values in valueses:
                self.assertIs(truth(got, values), truth(first, values), (first, values))
            told = got
        return shortened(first)

    def about_nought(self, told, far=4):
        names = sorted(free(told))
        return [dict(zip(names, numbers)) for numbers in itertools.product(range(-far, far + 1), repeat=len(names))]

    def test_a_least_alone(self):
        for told, asked in (
                (X, X), (least(5, x=-1), least(5, x=-1)), (least(4, x=2), least(2, x=1)),
                (least(5, x=2), least(2, x=1)), (least(-5, x=2), least(-3, x=1)), (least(-1, x=5), least(-1, x=1)),
                (least(-4, x=-2), least(-2, x=-1)),
                (least(-5, x=-2), least(-3, x=-1)), (least(1, x=3), least(0, x=1)), (least(-1, x=-3), least(-1, x=-1)),
                (least(7, x=4, y=-6), least(3, x=2, y=-3)), (least(-7, x=4, y=-6), least(-4, x=2, y=-3)),
                (least(7, x=4, y=-6, a=9), least(7, x=4, y=-6, a=9)), (least(-6, x=-3, y=-3), least(-2, x=-1, y=-1)),
                (least(GREAT, x=GREAT), least(1, x=1)), (least(GREAT - 1, x=-GREAT), least(0, x=-1)),
                (least(-GREAT - 1, x=GREAT), least(-2, x=1)), (least(1, x=6 * GREAT, y=15 * GREAT), least(0, x=2, y=5)),
                (least(0), YES), (least(1), YES), (least(GREAT), YES), (least(-1), NO), (least(-GREAT), NO)):
            self.assertEqual(shortened(told), asked, told)
            self.assert_short(told, self.about_nought(told))

    def test_a_rest_alone(self):
        for told, asked in (
                (R, R), (rest(2, 0, x=1), rest(2, 0, x=1)), (rest(3, -1, x=-1), rest(3, 2, x=2)),
                (rest(3, 7, x=4), rest(3, 1, x=1)), (rest(6, 4, x=2), rest(3, 2, x=1)), (rest(6, 3, x=2), NO),
                (rest(6, 4, x=-2), rest(3, 2, x=2)), (rest(6, -4, x=2, y=-8), rest(3, 1, x=1, y=2)),
                (rest(6, 1, x=2, y=3), rest(6, 1, x=2, y=3)), (rest(6, -2, x=14, y=10), rest(3, 2, x=1, y=2)),
                (rest(6, 5, x=6, y=1), rest(6, 5, y=1)), (rest(6, 4, x=12, y=2), rest(3, 2, y=1)),
                (rest(12, 8, x=4, y=-24), rest(3, 2, x=1)), (rest(4, 0, x=4), YES), (rest(4, 8, x=-4, y=8), YES),
                (rest(4, 2, x=4), NO), (rest(4, -3, x=8, y=4), NO), (rest(4, 2, x=2, y=4), rest(2, 1, x=1)),
                (rest(1, 0), YES), (rest(1, -5), YES), (rest(1, 9, x=7, y=-3), YES), (rest(5, 0), YES),
                (rest(5, 10), YES), (rest(5, -10), YES), (rest(5, 1), NO), (rest(5, -1), NO),
                (rest(10, 5, x=5), rest(2, 1, x=1)),
                (rest(GREAT, GREAT + 2, x=1), rest(GREAT, 2, x=1)),
                (rest(GREAT, -1, x=-1), rest(GREAT, GREAT - 1, x=GREAT - 1)),
                (rest(2 * GREAT, GREAT, x=3 * GREAT), rest(2, 1, x=1)), (rest(2 * GREAT, 1, x=GREAT), NO)):
            self.assertEqual(shortened(told), asked, told)
            self.assert_short(told, self.about_nought(told))

    def test_any_atom_alone(self):
        chance = random.Random(51)
        for turn in range(3000):
            pairs = [(name, chance.randrange(-12, 13)) for name in chance.sample(NAMES, chance.randrange(4))]
            c, pairs = sum_of(chance.randrange(-30, 31), pairs)
            m = chance.randrange(1, 25)
            self.assertEqual(shortened(("least", (c, pairs))), asked_least(c, pairs))
            self.assertEqual(shortened(("rest", m, (c, pairs))), asked_rest(m, c, pairs))
            for told in (("least", (c, pairs)), ("rest", m, (c, pairs))):
                self.assert_short(told, some_values(chance, 3))

    def test_nots(self):
        for part in (X, least(5, x=2), least(-5, x=-2, y=4), least(0), least(-1), R, rest(6, 4, x=-2),
                     rest(6, 3, x=2), rest(1, 0, x=1), rest(2, 1, x=1), rest(5, 5), rest(5, 4), YES, NO,
                     ("and", (X, R)), ("or", (X, R)), ("and", (X, ("not", R))),
                     ("or", (("and", (X, Y)), ("not", ("or", (R, Y)))))):
            told = part
            for turn in range(5):
                self.assert_short(told, self.about_nought(told))
                told = ("not", told)
        for told, asked in ((YES, NO), (NO, YES), (least(0), NO), (least(-1), YES), (rest(3, 3), NO),
                            (rest(3, 1), YES)):
            self.assertEqual(shortened(("not", told)), asked)

    def test_none_and_one(self):
        for word in ("and", "or"):
            self.assertEqual(shortened((word, ())), (word, ()))
            for part in (X, R, YES, NO, ("not", R), ("and", (X, R)), ("or", (X, R)), ("and", ()), least(3), least(-3)):
                for told in ((word, (part,)), ("and", ((word, (part,)),)), ("or", ((word, (part,)),)),
                             ("and", (Y, (word, (part,)))), ("or", (Y, (word, (part,)), (word, ())))):
                    self.assert_short(told, self.about_nought(told))

    def test_true_and_false_parts(self):
        sure = [YES, NO, least(0), least(-1), rest(2, 4), rest(2, 1), rest(1, 5, x=1), rest(4, 1, x=2), ("not", YES),
                ("and", (YES, NO)), ("or", (NO, ("and", (NO,))))]
        for word in ("and", "or"):
            for one, other in itertools.product(sure, repeat=2):
                for told in ((word, (one, other)), (word, (one, X, other)), (word, (X, (word, (one, R)), other)),
                             (word, (X, one, Y, ("not", (word, (other, R)))))):
                    self.assert_short(told, self.about_nought(told, 2))

    def test_equal_parts(self):
        for word, inner in itertools.product(("and", "or"), repeat=2):
            both = (inner, (X, R))
            for parts in ((X, X), (R, R, R), (X, Y, X), (("not", R), ("not", R)), (both, both), (both, both, Y),
                          (X, least(1, x=2)), (R, rest(6, 2, x=4)), (R, rest(3, -2, x=-1)), (both, (inner, (X, R, X))),
                          (both, (inner, (X, (inner, (R,))))), (("not", X), least(-1, x=-1))):
                told = (word, parts)
                self.assert_short(told, self.about_nought(told))
            self.assertEqual(shortened((word, (X, X))), X)
            self.assertEqual(shortened((word, (X, least(1, x=2)))), X)

    def test_leasts_with_the_same_pairs(self):
        for word in ("and", "or"):
            for numbers in itertools.permutations((-2, 0, 3)):
                told = (word, tuple(least(c, x=1, y=-1) for c in numbers))
                got = self.assert_short(told, self.about_nought(told))
                self.assertEqual(got, least(-2 if word == "and" else 3, x=1, y=-1))
                one, other, third = [least(c, x=place) for place, c in enumerate(numbers, start=1)]
                mixed = (word, (R, one, Y, other, (word, (third, R))))
                self.assert_short(mixed, self.about_nought(mixed))
                apart = (word, (one, ("not", (word, (Y, other, third)))))
                self.assert_short(apart, self.about_nought(apart))
            for parts in ((least(1, x=1), least(2, x=-1)), (least(-1, x=1), least(0, x=-1)), (X, least(0, x=1, y=1))):
                self.assert_short((word, parts), self.about_nought((word, parts)))

    def test_within_its_like(self):
        for word, other in (("and", "or"), ("or", "and")):
            inner = (word, (Y, R))
            for told in ((word, (X, inner)), (word, (inner, inner)), (word, (X, (word, (X, inner)))),
                         (word, (inner, Y)), (word, (X, (other, (inner,)))),
                         (word, (X, (other, (inner, ("not", (word, ())))))),
                         (word, (X, ("not", (other, (Y, ("not", R)))))),
                         (word, ((other, (X, (other, (Y, inner)))), inner)),
                         (other, ((other, ()), inner, (word, ()))), (word, ((word, ((word, ((word, (X,)),)),)),))):
                self.assert_short(told, self.about_nought(told))

    def test_any_plain_one(self):
        chance = random.Random(52)
        for turn in range(2500):
            told = any_statement(chance, 5, PLAIN + ["and", "or"])
            self.assert_short(told, some_values(chance, 6))

    def test_any_plain_one_of_few_atoms(self):
        chance = random.Random(53)
        few = [X, Y, least(2, x=1), least(-3, x=2), least(0, x=-1), R, rest(2, 0, x=1), rest(4, 2, x=2),
               rest(3, 2, y=1), YES, NO]

        def made(deep):
            word = chance.choice(["atom", "not", "and", "and", "or", "or"])
            if deep == 0 or word == "atom":
                return chance.choice(few)
            if word == "not":
                return ("not", made(deep - 1))
            return (word, tuple(made(deep - 1) for turn in range(chance.randrange(5))))
        for turn in range(1500):
            told = made(4)
            self.assert_short(told, self.about_nought(told, 3))

    def test_the_same_each_time_and_kinds(self):
        told = ("or", (least(3, y=2), ("not", ("and", (R, X, least(4, x=-2)))), rest(4, 1, x=1, y=-1)))
        self.assertEqual(shortened(told), shortened(told))
        self.assertEqual(kinds(shortened(told)), {tuple, str, int})

    def test_what_was_told_with_numbers_of_any_size(self):
        huge = 10 ** 9000
        told = tree_of(("and", (least(1, x=6, y=4), ("not", rest(5, 0, x=1, y=1)), least(0, x=1)))).filled({"x": huge})
        self.assertEqual(told[1][0], least(6 * huge + 1, y=4))
        self.assertEqual(shortened(told[1][0]), least((6 * huge + 1) // 4, y=1))
        self.assertEqual(shortened(("not", told[1][1])), rest(5, 0, y=1))
        self.assert_short(told, [{"y": y} for y in (-2 * huge, -huge, -3, 0, 1, huge)])

    def test_sizes(self):
        for word in ("and", "or"):
            told = (word, tuple(least(place % 7, x=place + 1, y=-place) for place in range(500))
                    + tuple(("not", rest(place + 2, place, x=GREAT, y=1)) for place in range(500)))
            self.assert_short(told, [{"x": 3, "y": 2}, {"x": -GREAT, "y": GREAT}])
            for deep in (20, 40):
                told = X
                for turn in range(deep):
                    told = ((word, (told, least(turn, x=1, a=turn))), ("not", told), ("and", (told,)))[turn % 3]
                self.assert_short(told, self.about_nought(told))


if __name__ == "__main__":
    unittest.main()
