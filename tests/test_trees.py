import itertools
import random
import unittest

from making import FULL, GREAT, NAMES, NO, PLAIN, X, Y, YES, any_statement, free, least, nested, put, rest, truth
from sumlaw import errors
from sumlaw.errors import NoValue, SumError
from sumlaw.sums import sum_of
from sumlaw.trees import Branch, tree_of


class Told(unittest.TestCase):
    def test_each_kind_is_a_branch_and_tells_its_tuple(self):
        for told in (X, rest(3, 1, x=2), ("not", X), YES, NO, ("and", (X, Y)), ("or", (X,)),
                     ("some", "x", X), ("all", "y", ("or", (X, ("not", Y))))):
            tree = tree_of(told)
            self.assertIsInstance(tree, Branch)
            self.assertIs(type(tree.told()), tuple)
            self.assertEqual(tree.told(), told)

    def test_it_tells_the_same_after_all_else_was_asked(self):
        chance = random.Random(11)
        for turn in range(200):
            told = any_statement(chance, 4, PLAIN)
            tree = tree_of(told)
            values = {name: chance.randrange(-5, 6) for name in NAMES}
            tree.wording(), tree.loose(), tree.worth(values), tree.filled(values)
            self.assertEqual(tree.told(), told)

    def test_two_trees_have_nothing_to_do_with_one_another(self):
        one, other = tree_of(("not", X)), tree_of(("not", Y))
        self.assertEqual((one.loose(), other.loose(), one.loose()), (["x"], ["y"], ["x"]))
        self.assertEqual((one.told(), other.told()), (("not", X), ("not", Y)))


class Worth(unittest.TestCase):
    def assert_worth(self, told, values, asked):
        answer = tree_of(told).worth(values)
        self.assertIs(answer, asked, (told, values))

    def test_least_about_nought(self):
        for number, asked in ((-1, False), (0, True), (1, True)):
            self.assert_worth(least(number), {}, asked)
            self.assert_worth(X, {"x": number}, asked)
            self.assert_worth(least(GREAT, x=-1), {"x": GREAT - number}, asked)

    def test_rest(self):
        for m in (1, 2, 3, 7):
            for number in range(-15, 16):
                asked = number in [m * k for k in range(-15, 16)]
                self.assert_worth(rest(m, number), {}, asked)
                self.assert_worth(rest(m, 0, x=1), {"x": number}, asked)
        self.assert_worth(rest(GREAT, 0, x=-2), {"x": GREAT ** 30}, True)
        self.assert_worth(rest(GREAT, 1, x=-2), {"x": GREAT ** 30}, False)

    def test_words(self):
        self.assert_worth(YES, {}, True)
        self.assert_worth(NO, {}, False)
        self.assert_worth(("not", YES), {}, False)
        self.assert_worth(("not", ("not", YES)), {}, True)
        for many in (1, 2, 3):
            for parts in itertools.product((YES, NO), repeat=many):
                self.assert_worth(("and", parts), {}, NO not in parts)
                self.assert_worth(("or", parts), {}, YES in parts)

    def test_many_against_another_reckoning(self):
        chance = random.Random(12)
        for turn in range(600):
            told = any_statement(chance, 4, PLAIN)
            tree = tree_of(told)
            first = {name: chance.randrange(-5, 6) for name in NAMES}
            second = {name: chance.choice([-GREAT, -1, 0, 3, 7 ** 3000]) for name in NAMES}
            for values in (first, second, first):
                before = dict(values)
                self.assertIs(tree.worth(values), truth(told, values))
                self.assertEqual(values, before)

    def test_the_same_dict_with_another_number(self):
        tree = tree_of(("and", (X, Y)))
        values = {"x": 1, "y": 1}
        self.assertIs(tree.worth(values), True)
        values["y"] = -1
        self.assertIs(tree.worth(values), False)
        values["y"] = 1
        self.assertIs(tree.worth(values), True)

    def test_names_that_nobody_asks_for(self):
        self.assert_worth(X, {"w": -3, "x": 0, "y": -9}, True)

    def test_any_free_name_without_value(self):
        others = (errors.NoText, errors.TooLong, errors.TooGreat, errors.NoPick, errors.NoLine, errors.Known,
                  errors.Unknown)
        true_x, false_x = {"x": 0}, {"x": -1}
        for told, values in ((Y, {}), (Y, {"x": 1}), (rest(1, 0, y=1), {}), (least(0, x=1, y=1), true_x),
                             (("not", Y), true_x), (("or", (X, Y)), true_x), (("or", (Y, X)), true_x),
                             (("and", (X, Y)), false_x), (("and", (Y, X)), false_x),
                             (("or", (YES, Y)), {}), (("and", (NO, Y)), {}), (("or", (YES, ("not", Y))), {}),
                             (("and", (("or", (X, ("and", (NO, ("or", (YES, Y)))))), X)), true_x)):
            tree = tree_of(told)
            for refusal in (NoValue, SumError, ValueError):
                with self.assertRaises(refusal, msg=told) as caught:
                    tree.worth(values)
                self.assertNotIsInstance(caught.exception, others)
        self.assertEqual((true_x, false_x), ({"x": 0}, {"x": -1}))

    def test_lacking_then_there_then_lacking(self):
        tree = tree_of(("or", (X, Y)))
        with self.assertRaises(NoValue):
            tree.worth({"x": 0})
        self.assertIs(tree.worth({"x": 0, "y": 0}), True)
        with self.assertRaises(NoValue):
            tree.worth({"x": 0})


class Loose(unittest.TestCase):
    def test_rising_and_each_once(self):
        told = ("and", (least(0, z=1, b=1), rest(2, 0, x10=1, x2=1, x=1), ("not", least(0, b=2, a9=1, aa=1))))
        self.assertEqual(tree_of(told).loose(), ["a9", "aa", "b", "x", "x10", "x2", "z"])

    def test_without_names(self):
        for told in (YES, NO, least(3), rest(2, 1), ("some", "x", least(3)), ("all", "x", YES)):
            self.assertEqual(tree_of(told).loose(), [])

    def test_bound(self):
        both = least(0, x=1, y=1)
        for word, other in (("some", "all"), ("all", "some"), ("some", "some"), ("all", "all")):
            for told, names in (((word, "x", X), []), ((word, "y", X), ["x"]), ((word, "x", both), ["y"]),
                                ((word, "x", (other, "y", both)), []), ((word, "x", (other, "x", both)), ["y"]),
                                ((word, "y", (other, "z", both)), ["x"]),
                                ((word, "x", ("not", ("or", (NO, both)))), ["y"])):
                self.assertEqual(tree_of(told).loose(), names, told)

    def test_free_and_bound(self):
        inner = ("some", "x", X)
        for told in (("and", (inner, X)), ("and", (X, inner)), ("or", (inner, ("all", "y", X))),
                     ("some", "y", ("and", (inner, X)))):
            self.assertEqual(tree_of(told).loose(), ["x"], told)
        self.assertEqual(tree_of(("all", "x", ("and", (inner, X)))).loose(), [])
        self.assertEqual(tree_of(("all", "x", ("and", (("some", "y", Y), X, Y)))).loose(), ["y"])

    def test_many_against_another_reckoning(self):
        chance = random.Random(13)
        for turn in range(600):
            told = any_statement(chance, 5, FULL)
            self.assertEqual(tree_of(told).loose(), sorted(free(told)), told)

    def test_a_new_list_each_time(self):
        tree = tree_of(("some", "z", least(0, x=1, y=1, z=1)))
        first = tree.loose()
        second = tree.loose()
        self.assertIs(type(first), list)
        self.assertIsNot(first, second)
        first.append("q")
        first[0] = "p"
        self.assertEqual(second, ["x", "y"])
        self.assertEqual(tree.loose(), ["x", "y"])
        self.assertIn("x", tree.wording())
        with self.assertRaises(NoValue):
            tree_of(X).worth({"p": 1, "q": 1})


class Filled(unittest.TestCase):
    def test_none_some_and_all(self):
        told = ("and", (least(-7, x=-2, y=1), rest(3, 5, x=4), least(2), ("not", YES)))
        tree = tree_of(told)
        for values in ({}, {"z": 4}, {"xx": 4, "w": 0}):
            self.assertEqual(tree.filled(values), told)
        self.assertEqual(tree.filled({"x": 3}), ("and", (least(-13, y=1), rest(3, 17), least(2), ("not", YES))))
        self.assertEqual(tree.filled({"y": -GREAT, "q": 1}),
                         ("and", (least(-7 - GREAT, x=-2), rest(3, 5, x=4), least(2), ("not", YES))))
        self.assertEqual(tree.filled({"y": 1, "x": 0}), ("and", (least(-6), rest(3, 5), least(2), ("not", YES))))
        self.assertEqual(tree.told(), told)

    def test_the_value_nought_counts(self):
        self.assertEqual(tree_of(least(4, x=3, y=2)).filled({"x": 0}), least(4, y=2))

    def test_bound_names_stay(self):
        both = rest(5, 1, x=1, y=2)
        for word, other in (("some", "all"), ("all", "some"), ("some", "some"), ("all", "all")):
            for told, values, asked in (
                    ((word, "x", both), {"x": 9}, (word, "x", both)),
                    ((word, "x", both), {"x": 9, "y": 3}, (word, "x", rest(5, 7, x=1))),
                    ((word, "x", (other, "y", both)), {"x": 9, "y": 3}, (word, "x", (other, "y", both))),
                    ((word, "x", (other, "x", both)), {"x": 9, "y": 3}, (word, "x", (other, "x", rest(5, 7, x=1)))),
                    ((word, "z", both), {"z": 1, "x": 2}, (word, "z", rest(5, 3, y=2)))):
                self.assertEqual(tree_of(told).filled(values), asked, told)

    def test_free_and_bound(self):
        inner = ("some", "x", least(0, x=1, y=1))
        for order in (1, -1):
            told = ("or", (inner, X, ("not", X))[::order])
            asked = ("or", (("some", "x", least(8, x=1)), least(5), ("not", least(5)))[::order])
            self.assertEqual(tree_of(told).filled({"x": 5, "y": 8}), asked)

    def test_parts_and_order_stay(self):
        told = ("or", (Y, X, ("or", ()), X, ("and", (X,)), ("not", ("not", X)), least(-1), rest(1, 9), YES))
        asked = ("or", (Y, least(4), ("or", ()), least(4), ("and", (least(4),)), ("not", ("not", least(4))),
                        least(-1), rest(1, 9), YES))
        self.assertEqual(tree_of(told).filled({"x": 4}), asked)

    def test_many_against_another_reckoning(self):
        chance = random.Random(14)
        for turn in range(600):
            told = any_statement(chance, 5, FULL)
            tree = tree_of(told)
            names = chance.sample(NAMES + ["q"], chance.randrange(7))
            values = {name: chance.choice([-GREAT, -2, 0, 1, 5]) for name in names}
            before = dict(values)
            asked = put(told, values)
            got = tree.filled(values)
            self.assertEqual(got, asked, told)
            self.assertEqual(values, before)
            self.assertEqual(tree.told(), told)
            self.assertEqual(tree.filled({}), told)
            values["x"] = 77
            self.assertEqual(got, asked)
            self.assertEqual(tree_of(got).loose(), sorted(free(told) - set(before)))


class Wording(unittest.TestCase):
    def assert_wording(self, told, text):
        self.assertEqual(tree_of(told).wording(), text)

    def test_sums(self):
        for c, pairs, text in (
                (-7, [("x", -2), ("y", 1)], "-2*x + y - 7"), (0, [], "0"), (1, [], "1"), (-1, [], "-1"),
                (12, [], "12"), (-12, [], "-12"), (0, [("x", 1)], "x"), (0, [("x", -1)], "-x"),
                (0, [("x", 3)], "3*x"), (0, [("x", -3)], "-3*x"), (1, [("x", 1)], "x + 1"),
                (-1, [("x", -1)], "-x - 1"), (5, [("x", 10)], "10*x + 5"),
                (0, [("x", 1), ("y", 1)], "x + y"), (0, [("x", 1), ("y", -1)], "x - y"),
                (0, [("x", -1), ("y", 3)], "-x + 3*y"), (2, [("x", 1), ("y", -3), ("z", -1)], "x - 3*y - z + 2"),
                (-GREAT, [("x", GREAT), ("y", -GREAT)], f"{GREAT}*x - {GREAT}*y - {GREAT}"),
                (0, [("x2", 1), ("x10", 2), ("abcdefg9", -11)], "-11*abcdefg9 + 2*x10 + x2")):
            self.assert_wording(("least", sum_of(c, pairs)), text + " >= 0")
            self.assert_wording(("rest", 5, sum_of(c, pairs)), text + " alike 0 by 5")
        self.assert_wording(rest(1, 0), "0 alike 0 by 1")
        self.assert_wording(rest(GREAT, 0, x=1), f"x alike 0 by {GREAT}")

    def test_words(self):
        x, y = "x >= 0", "y >= 0"
        for told, text in ((YES, "and()"), (NO, "or()"), (("and", (X,)), f"and({x})"), (("or", (X,)), f"or({x})"),
                           (("and", (X, Y, X)), f"and({x}, {y}, {x})"), (("or", (Y, X, Y)), f"or({y}, {x}, {y})"),
                           (("not", X), f"not({x})"), (("some", "x", X), f"some(x, {x})"),
                           (("all", "y1", X), f"all(y1, {x})"),
                           (("some", "x", ("all", "y", ("or", (("not", ("and", (X, NO))), Y)))),
                            f"some(x, all(y, or(not(and({x}, or())), {y})))")):
            self.assert_wording(told, text)

    def test_the_same_each_time(self):
        tree = tree_of(("all", "x", ("or", (X, Y))))
        self.assertEqual(tree.wording(), tree.wording())


class Sizes(unittest.TestCase):
    def test_a_thousand_atoms(self):
        atoms = tuple(least(place - 500, x=1) if place % 2 else rest(place + 1, place + 1, y=place + 1)
                      for place in range(1000))
        tree = tree_of(("and", atoms))
        self.assertEqual(tree.told(), ("and", atoms))
        self.assertEqual(tree.loose(), ["x", "y"])
        self.assertIs(tree.worth({"x": 499, "y": 4}), True)
        self.assertIs(tree.worth({"x": 498, "y": 4}), False)
        self.assertEqual(len(tree.wording().split(", ")), 1000)
        self.assertEqual(tree.filled({"x": 3})[1][999], least(502))
        self.assertEqual(tree.filled({"x": 3}), put(("and", atoms), {"x": 3}))

    def test_a_sum_of_two_thousand_names(self):
        told = ("least", sum_of(0, [("n" + str(place), GREAT) for place in range(2000)]))
        tree = tree_of(told)
        self.assertEqual(len(tree.loose()), 2000)
        self.assertEqual(tree.wording().count(" + "), 1999)
        self.assertIs(tree.worth({name: -1 for name in tree.loose()}), False)

    def test_twenty_words_within_one_another_and_somewhat_more(self):
        for deep in (20, 40):
            told = nested(deep, least(1, b2=1, b4=1, x=1))
            tree = tree_of(told)
            self.assertEqual(tree.told(), told)
            self.assertEqual(tree.loose(), ["q", "x"])
            self.assertEqual(tree.filled({"x": 5, "b2": 3}), put(told, {"x": 5, "b2": 3}))
            self.assertEqual(tree.wording().count("("), tree.wording().count(")"))
            plain = X
            for turn in range(deep):
                plain = ("not", plain)
            self.assertIs(tree_of(plain).worth({"x": 0}), True)

    def test_values_of_any_size_put_in_and_written(self):
        huge = 10 ** 9000
        told = tree_of(least(0, x=-1, y=1)).filled({"x": huge})
        self.assertEqual(told, least(-huge, y=1))
        tree = tree_of(told)
        self.assertEqual(tree.wording(), "y - 1" + "0" * 9000 + " >= 0")
        self.assertIs(tree.worth({"y": huge}), True)
        self.assertIs(tree.worth({"y": huge - 1}), False)
        self.assertEqual(tree_of(tree.filled({"y": 0})).wording(), "-1" + "0" * 9000 + " >= 0")


if __name__ == "__main__":
    unittest.main()
