import random
import unittest

from sumlaw.writing import figures


class Figures(unittest.TestCase):
    def test_small_ones(self):
        for number in range(-1200, 1200):
            self.assertEqual(figures(number), str(number))

    def test_about_the_ends_of_pieces(self):
        for power in (63, 64, 65, 127, 128, 129, 192, 640, 1000):
            for beside in (-1, 0, 1):
                for sign in (-1, 1):
                    number = sign * (10 ** power + beside)
                    self.assertEqual(figures(number), str(number))

    def test_any_up_to_a_thousand_figures(self):
        chance = random.Random(1)
        for turn in range(300):
            number = chance.randrange(-10 ** chance.randrange(1, 1000), 10 ** chance.randrange(1, 1000))
            self.assertEqual(figures(number), str(number))

    def test_more_figures_than_str_takes(self):
        self.assertEqual(figures(10 ** 20000), "1" + "0" * 20000)
        self.assertEqual(figures(-10 ** 20000 + 1), "-" + "9" * 20000)


if __name__ == "__main__":
    unittest.main()
