"""What is promised over the whole program: what is handed in stays, lists are the asker's own, all in good time."""

import copy
import random
import time
import unittest

from making import GREAT, NO, X, Y, YES, any_deep, least, rest, within
from sumlaw.answer import answer, pick
from sumlaw.bare import bare
from sumlaw.cases import cases_of, put_in, taken
from sumlaw.desk import written
from sumlaw.errors import NoPick, SumError
from sumlaw.inward import inward
from sumlaw.looker import looked
from sumlaw.measure import atoms, depth, fits, load
from sumlaw.reading import pieces, read
from sumlaw.sets import answers, how_many, inside, nearest
from sumlaw.shortened import shortened
from sumlaw.sought import sought
from sumlaw.sums import plus, share, sum_of, times, value, without
from sumlaw.trees import tree_of
from sumlaw.unlike import unlike

PLAIN = ("and", (least(0, x=2, y=-1), least(9, x=-2, y=1), ("not", rest(3, 1, x=1))))
DEEP = ("or", (("all", "z", ("or", (least(0, x=1, z=-1), least(0, y=1, z=1)))), X))


class Changed(unittest.TestCase):
    def calls(self):
        """Each function with what may be handed to it, lists and dicts made anew."""
        total = sum_of(3, [("x", 2), ("y", -1)])
        values, own = {"y": 3, "x": 2, "more": 7}, (2, [(0, None, 4), (0, 8, 12), (1, 3, None)])
        cases = cases_of(PLAIN, "x")
        return [(sum_of, 3, [("x", 2), ("a", 0), ("x", 1)]), (plus, total, total), (times, 3, total),
                (share, total, "x"), (without, total, "x"), (value, total, values), (pieces, "x >= 0"),
                (read, "x = 3"), (inward, DEEP), (atoms, DEEP), (depth, DEEP), (load, DEEP[1][0]), (fits, DEEP),
                (fits, DEEP, 1), (shortened, PLAIN), (put_in, PLAIN, "x", (1, (("y", 1),)), 2), (cases_of, PLAIN, "x"),
                (taken, PLAIN, "x"), (looked, PLAIN, "x", cases), (sought, PLAIN, "x", values), (bare, DEEP),
                (answer, DEEP, values), (pick, DEEP, values), (answers, DEEP, "x", values), (inside, own, 4),
                (nearest, own, 5), (how_many, own),
                (unlike, PLAIN, DEEP, "x", values), (written, own), (tree_of(DEEP).filled, values),
                (tree_of(DEEP).loose,), (tree_of(PLAIN).worth, values), (tree_of(DEEP).told,), (tree_of(DEEP).wording,)]

    def test_nothing_that_is_handed_in_is_changed(self):
        for function, *arguments in self.calls():
            kept = copy.deepcopy(arguments)
            first = function(*arguments)
            self.assertEqual(arguments, kept, function)
            for one, other in zip(arguments, kept):
                if isinstance(one, dict):
                    self.assertEqual(list(one.items()), list(other.items()))
            self.assertEqual(function(*arguments), first, function)

    def test_each_list_is_a_new_one(self):
        for function, *arguments in self.calls():
            one, other = function(*arguments), function(*arguments)
            for first, second in zip(*[thing if isinstance(thing, tuple) else (thing,) for thing in (one, other)]):
                if isinstance(first, list):
                    self.assertIsNot(first, second, function)
                    kept = copy.deepcopy(second)
                    first.append(None)
                    first.reverse()
                    self.assertEqual(second, kept, function)
                    second.clear()
                    again = function(*arguments)
                    self.assertIn(kept, again if isinstance(again, tuple) else [again], function)

    def test_what_is_changed_afterwards(self):
        values = {"x": 1, "y": 2}
        tree = tree_of(DEEP)
        filled = tree.filled(values)
        told = answers(PLAIN, "x", values)
        kept = copy.deepcopy(told)
        values["x"] = 99
        values.clear()
        self.assertEqual(filled, tree_of(DEEP).filled({"x": 1, "y": 2}))
        self.assertEqual(told, kept)
        names = tree.loose()
        names.append("zz")
        self.assertEqual(tree.loose(), ["x", "y"])
        cases = cases_of(PLAIN, "x")
        looked(PLAIN, "x", cases)
        cases.clear()
        self.assertTrue(looked(PLAIN, "x", cases_of(PLAIN, "x")))


class InGoodTime(unittest.TestCase):
    def ask(self, told, values):
        """All that can be asked of a statement that fits."""
        self.assertTrue(fits(told), told)
        truth = answer(told, values)
        try:
            pick(told, values)
            self.assertEqual(truth, told[0] in ("or", "some"))
        except NoPick:
            self.assertEqual(truth, told[0] not in ("or", "some"))
        if fits(told, 1):
            bare(told)
        if told[0] in ("some", "all") and depth(told) < 3:
            self.assertEqual(bool(answers(("not", told[2]) if told[0] == "all" else told[2], told[1], values)[1]),
                             truth is (told[0] == "some"))
            unlike(told[2], NO, told[1], values)
            unlike(YES, told[2], told[1], values)

    def wide(self, chance, names, count, share_of, divisor):
        """Atoms of all names, with numbers that divide share_of, and rests by numbers that divide divisor."""
        shares = [k for k in range(1, share_of + 1) if share_of % k == 0]
        divisors = [m for m in range(1, divisor + 1) if divisor % m == 0]
        found = []
        for turn in range(count):
            pairs = [(name, chance.choice(shares) * chance.choice([-1, 1])) for name in names]
            total = sum_of(chance.randrange(-99, 99), pairs + [("w", chance.randrange(-9, 9))])
            found.append(("rest", chance.choice(divisors), total) if divisor > 1 and turn % 2 else ("least", total))
        return tuple(found)

    def forms(self, parts):
        """Different trees over the same atoms."""
        half = len(parts) // 2
        found = [("and", parts), ("or", parts), ("not", ("and", parts))]
        found.append(("and", (("or", parts[:half]), ("or", parts[half:]))))
        found.append(("or", (("and", parts[:half]), ("and", parts[half:]))))
        found.append(("or", tuple(("and", parts[place:place + 2]) for place in range(0, len(parts), 2))))
        found.append(("and", tuple(("or", parts[place:place + 2]) for place in range(0, len(parts), 2))))
        return found

    def test_depth_one(self):
        chance = random.Random(151)
        started = time.process_time()
        for count, share_of, divisor in ((1, 960, 1), (1, 1, 960), (1, 30, 32), (2, 240, 1), (2, 1, 240), (2, 12, 20),
                                         (3, 106, 1), (3, 8, 12), (4, 60, 1), (4, 6, 10), (6, 2, 12), (10, 1, 9),
                                         (15, 4, 1), (21, 2, 1), (30, 1, 1)):
            for form in self.forms(self.wide(chance, ["x"], count, share_of, divisor)):
                for word in ("some", "all"):
                    for w in (0, GREAT, -10 ** 2000):
                        self.ask((word, "x", form), {"w": w})
        self.assertLess(time.process_time() - started, 60)

    def test_depth_two(self):
        chance = random.Random(152)
        started = time.process_time()
        for count, share_of, divisor in ((1, 240, 1), (1, 239, 1), (1, 1, 240), (1, 12, 20), (2, 60, 1), (2, 1, 60),
                                         (2, 6, 10), (3, 26, 1), (3, 2, 12), (4, 15, 1), (4, 3, 5), (5, 9, 1),
                                         (7, 4, 1), (7, 2, 2), (10, 2, 1), (10, 1, 2), (15, 1, 1)):
            for form in self.forms(self.wide(chance, ["x", "y"], count, share_of, divisor)):
                for words in (("some", "some"), ("some", "all"), ("all", "some"), ("all", "all")):
                    self.ask((words[0], "x", (words[1], "y", form)), {"w": chance.choice([0, GREAT, -10 ** 2000])})
        self.assertLess(time.process_time() - started, 60)

    def test_depth_three(self):
        chance = random.Random(153)
        started = time.process_time()
        for count, divisor in ((1, 18), (2, 4), (3, 2), (4, 1), (4, 1), (4, 1)):
            for form in self.forms(self.wide(chance, ["x", "y", "z"], count, 1, divisor)):
                for turn in range(8):
                    told = ("some" if turn % 2 else "all", "z", form)
                    told = ("some" if turn // 2 % 2 else "all", "y", told)
                    self.ask(("some" if turn // 4 else "all", "x", told), {"w": chance.choice([0, GREAT, -10 ** 2000])})
        self.assertLess(time.process_time() - started, 60)

    def test_many_beside_one_another(self):
        started = time.process_time()
        for word in ("some", "all"):
            for other in ("and", "or"):
                for parts in (tuple((word, "x", least(place, x=960, y=1)) for place in range(40)),
                              tuple((word, "x", ("not", rest(960, place, x=1, y=1))) for place in range(40)),
                              tuple(("all", "x", (word, "y", least(place, x=1, y=239))) for place in range(40)),
                              tuple(within(3, rest(18, place, q0=1, q1=1, y=1)) for place in range(40)),
                              tuple(("some", "z", within(2, least(place, q0=1, q1=-1, z=1))) for place in range(40)),
                              tuple(("all", "z", (word, "x", ("or", (least(place, x=60, z=1), least(-1, x=-60, z=1)))))
                                    for place in range(20))):
                    self.ask((other, parts), {"y": GREAT})
        self.assertLess(time.process_time() - started, 60)

    def test_refused_in_good_time(self):
        started = time.process_time()
        thousand = tuple(("rest", 10 ** 199 + place, sum_of(place,
                                                            [("x", 10 ** 198 + place)])) for place in range(1000))
        for told in (("and", thousand), ("some", "x", ("and", thousand)), ("some", "x", ("or", thousand[:40])),
                     within(19, ("or", thousand)), within(20, X), ("and", tuple(within(2, one) for one in thousand))):
            for function, arguments in ((answer, (told, {})), (pick, (told, {})), (bare, (told,)),
                                        (answers, (told, "x", {})), (unlike, (told, told, "x", {}))):
                with self.assertRaises(SumError):
                    function(*arguments)
        self.assertLess(time.process_time() - started, 60)

    def test_what_was_told_may_be_handed_in(self):
        """A bared statement of any size is answered as the first one, or refused where it does not fit."""
        chance = random.Random(154)
        done = 0
        while done < 200:
            told = any_deep(chance, ["x", "y"], 1, chance.randrange(1, 5), 2)
            if fits(told, 1):
                short = bare(told)
                values = {"x": chance.randrange(-9, 9), "y": chance.randrange(-9, 9)}
                if fits(short):
                    self.assertIs(answer(short, values), answer(told, values))
                    done += 1


class Play(unittest.TestCase):
    def test_numbers_of_many_figures_are_told(self):
        """Numbers with as many figures as they need."""
        great = 10 ** 5000 + 1
        around = ("and", (least(0, x=3, y=-1), least(2, x=-3, y=1)))
        for y in (great, -great):
            asked = -(-y // 3)
            self.assertEqual(pick(("some", "x", around), {"y": y}), asked)
            self.assertEqual(sought(around, "x", {"y": y}), asked)
            self.assertEqual(answers(around, "x", {"y": y}), (1, [(0, asked, asked)]))
            self.assertEqual(unlike(around, NO, "x", {"y": y}), asked)
            self.assertEqual(nearest(answers(around, "x", {"y": y}), y * y * -1), asked)
            self.assertTrue(answer(("and", (("some", "x", around), ("or", (Y, ("not", Y))))), {"y": y}))


if __name__ == "__main__":
    unittest.main()
