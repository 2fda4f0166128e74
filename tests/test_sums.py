import random
import unittest

from sumlaw import errors
from sumlaw.errors import NoValue, SumError
from sumlaw.sums import plus, share, sum_of, times, value, without

GREAT = 10 ** 199 + 7
# Of one and of eight signs; differing in length, or in one sign alone, at the front, within and at the end.
NAMES = ["a", "z", "a1", "a9", "aa", "ab", "b", "b0000000", "ba", "bzzzzzzz", "x", "x1", "x10", "x2", "zzzzzzz9",
         "zzzzzzzz", "abcdefgh", "abcdefgi", "abcdxfgh", "bbcdefgh", "ands", "o", "al"]


def added(pairs):
    """The pairs of a sum, reckoned another way."""
    rising = sorted({name for name, k in pairs})
    totals = [(name, sum(k for other, k in pairs if other == name)) for name in rising]
    return tuple(pair for pair in totals if pair[1] != 0)


def some_pairs(chance, most=12):
    return [(chance.choice(NAMES), chance.choice([-2, -1, 0, 1, 2, 5, GREAT, -GREAT]))
            for turn in range(chance.randrange(most))]


class Forms(unittest.TestCase):
    def assert_sum(self, one):
        self.assertIs(type(one), tuple)
        self.assertEqual(len(one), 2)
        self.assertIs(type(one[0]), int)
        self.assertIs(type(one[1]), tuple)
        for pair in one[1]:
            self.assertIs(type(pair), tuple)
            self.assertIs(type(pair[1]), int)
            self.assertNotEqual(pair[1], 0)
        names = [name for name, k in one[1]]
        self.assertEqual(names, sorted(set(names)))


class SumOf(Forms):
    def test_any_order(self):
        self.assertEqual(sum_of(-7, [("y", 1), ("x", -2)]), (-7, (("x", -2), ("y", 1))))
        self.assertEqual(sum_of(0, [("x", 1), ("x10", 2), ("x2", 3), ("x1", 4), ("wz", 5)]),
                         (0, (("wz", 5), ("x", 1), ("x1", 4), ("x10", 2), ("x2", 3))))

    def test_names_more_than_once(self):
        self.assertEqual(sum_of(1, [("x", 2), ("y", 3), ("x", 5)]), (1, (("x", 7), ("y", 3))))

    def test_nought_is_left_out(self):
        self.assertEqual(sum_of(4, [("x", 0), ("y", 3), ("z", 2), ("z", -2)]), (4, (("y", 3),)))
        self.assertEqual(sum_of(4, [("z", 2), ("z", -2), ("z", 1)]), (4, (("z", 1),)))
        self.assertEqual(sum_of(0, [("x", 0)]), (0, ()))

    def test_no_pairs(self):
        self.assertEqual(sum_of(0, []), (0, ()))
        self.assertEqual(sum_of(-GREAT, []), (-GREAT, ()))

    def test_many_against_another_reckoning(self):
        chance = random.Random(5)
        for turn in range(400):
            pairs = some_pairs(chance)
            c = chance.randrange(-9, 10)
            one = sum_of(c, pairs)
            self.assert_sum(one)
            self.assertEqual(one, (c, added(pairs)))

    def test_two_thousand_pairs(self):
        pairs = [("n" + str(place % 1500), place - 700) for place in range(2000)]
        one = sum_of(1, pairs)
        self.assert_sum(one)
        self.assertEqual(one, (1, added(pairs)))

    def test_what_is_handed_in_stays_and_is_let_go(self):
        pairs = [("y", 1), ("x", 2), ("y", 3), ("w", 0)]
        before = list(pairs)
        one = sum_of(3, pairs)
        self.assertEqual(pairs, before)
        pairs.append(("z", 4))
        pairs[0] = ("q", 9)
        self.assertEqual(one, (3, (("x", 2), ("y", 4))))


class Reckoning(Forms):
    def test_plus(self):
        one = (3, (("a", 1), ("b", 2), ("d", GREAT)))
        other = (-5, (("b", -2), ("c", 4), ("d", 1)))
        both = (-2, (("a", 1), ("c", 4), ("d", GREAT + 1)))
        self.assertEqual(plus(one, other), both)
        self.assertEqual(plus(other, one), both)
        self.assertEqual(plus(one, (0, ())), one)
        self.assertEqual(plus(one, times(-1, one)), (0, ()))

    def test_times(self):
        one = (3, (("a", 1), ("b", -2)))
        self.assertEqual(times(2, one), (6, (("a", 2), ("b", -4))))
        self.assertEqual(times(-1, one), (-3, (("a", -1), ("b", 2))))
        self.assertEqual(times(-GREAT, one), (-3 * GREAT, (("a", -GREAT), ("b", 2 * GREAT))))
        self.assertEqual(times(1, one), one)
        self.assertEqual(times(0, one), (0, ()))
        self.assertEqual(times(7, (0, ())), (0, ()))

    def test_share(self):
        one = (3, (("a", 1), ("ab", -2), ("b", GREAT)))
        self.assertEqual([share(one, name) for name in ("a", "ab", "b")], [1, -2, GREAT])
        for name in ("abc", "c", "a1", "b0"):
            self.assertEqual(share(one, name), 0)
        self.assertEqual(share((5, ()), "a"), 0)

    def test_without(self):
        one = (3, (("a", 1), ("ab", -2), ("b", 4)))
        self.assertEqual(without(one, "a"), (3, (("ab", -2), ("b", 4))))
        self.assertEqual(without(one, "ab"), (3, (("a", 1), ("b", 4))))
        self.assertEqual(without(one, "b"), (3, (("a", 1), ("ab", -2))))
        self.assertEqual(without(one, "abc"), one)
        self.assertEqual(without((0, (("a", 1),)), "a"), (0, ()))
        self.assertEqual(without((8, ()), "a"), (8, ()))

    def test_each_gives_a_sum_and_the_right_one(self):
        chance = random.Random(6)
        for turn in range(300):
            first = some_pairs(chance)
            second = some_pairs(chance)
            one = sum_of(chance.randrange(-9, 10), first)
            other = sum_of(chance.randrange(-9, 10), second)
            k = chance.choice([-GREAT, -3, -1, 0, 1, 2])
            name = chance.choice(NAMES)
            for told in (plus(one, other), times(k, one), without(one, name)):
                self.assert_sum(told)
            self.assertEqual(plus(one, other), (one[0] + other[0], added(first + second)))
            self.assertEqual(times(k, one), (k * one[0], added([(own, k * much) for own, much in first])))
            self.assertEqual(share(one, name), dict(one[1]).get(name, 0))
            self.assertEqual(without(one, name), (one[0], tuple(pair for pair in one[1] if pair[0] != name)))


class Value(unittest.TestCase):
    def test_ordinary_and_great(self):
        one = (-7, (("x", -2), ("y", 1)))
        self.assertEqual(value(one, {"x": 1, "y": 10}), 1)
        self.assertEqual(value(one, {"y": 0, "x": 0}), -7)
        huge = 7 ** 30000
        self.assertEqual(value(one, {"x": -huge, "y": 3}), 2 * huge - 4)
        self.assertEqual(value((GREAT, (("x", GREAT),)), {"x": GREAT}), GREAT + GREAT * GREAT)

    def test_no_names(self):
        self.assertEqual(value((5, ()), {}), 5)
        self.assertEqual(value((0, ()), {"x": 3}), 0)

    def test_names_that_nobody_asks_for(self):
        values = {"w": 100, "x": 2, "xx": 1000, "z": -4}
        self.assertEqual(value((1, (("x", 3),)), values), 7)
        self.assertEqual(values, {"w": 100, "x": 2, "xx": 1000, "z": -4})

    def test_a_number_lacks(self):
        one = (1, (("x", 3), ("y", 4)))
        others = (errors.NoText, errors.TooLong, errors.TooGreat, errors.NoPick, errors.NoLine, errors.Known,
                  errors.Unknown)
        for values in ({}, {"x": 1}, {"y": 1}, {"z": 1, "x": 0}, {"y": 0, "xy": 0}):
            before = dict(values)
            for refusal in (NoValue, SumError, ValueError):
                with self.assertRaises(refusal) as caught:
                    value(one, values)
                self.assertNotIsInstance(caught.exception, others)
            self.assertEqual(values, before)


if __name__ == "__main__":
    unittest.main()
