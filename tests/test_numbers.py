import math
import unittest

from sumlaw.numbers import common, least_common

GREAT = 10 ** 199 + 7
BEYOND = 3 ** 20000


class Common(unittest.TestCase):
    def test_small_ones_of_both_signs_either_way_round(self):
        for a in range(-40, 41):
            for b in range(-40, 41):
                self.assertEqual(common(a, b), math.gcd(a, b), (a, b))

    def test_nought_on_one_side_and_on_both(self):
        self.assertEqual(common(0, 0), 0)
        for a in (1, -1, 12, -12, GREAT, -GREAT):
            self.assertEqual(common(a, 0), abs(a))
            self.assertEqual(common(0, a), abs(a))

    def test_great_ones(self):
        for a, b in ((6 * GREAT, 15 * GREAT), (GREAT, GREAT + 1), (BEYOND, 9 * GREAT), (2 ** 600, 6 ** 300)):
            for one, other in ((a, b), (b, a), (-a, b), (a, -b), (-a, -b)):
                self.assertEqual(common(one, other), math.gcd(a, b))

    def test_it_is_a_whole_number_and_no_truth(self):
        for a, b in ((0, 0), (1, 1), (0, 1), (3, 2)):
            self.assertIs(type(common(a, b)), int)


class LeastCommon(unittest.TestCase):
    def test_small_ones(self):
        for a in range(1, 50):
            for b in range(1, 50):
                least = next(n for n in range(1, a * b + 1) if n % a == 0 and n % b == 0)
                self.assertEqual(least_common(a, b), least, (a, b))

    def test_great_ones(self):
        for a, b in ((6 * GREAT, 15 * GREAT), (GREAT, 1), (1, GREAT), (GREAT, GREAT), (BEYOND, 2 * GREAT)):
            self.assertEqual(least_common(a, b), math.lcm(a, b))
            self.assertEqual(least_common(b, a), math.lcm(a, b))


if __name__ == "__main__":
    unittest.main()
