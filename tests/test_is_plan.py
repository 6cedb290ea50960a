"""is_plan: right plans, and something else at each place of a plan."""

import ast
import itertools
import random
import re
import unittest

from fewsaves.plans import is_plan
from samples import ODD, OUT, bent, plain_asks, plain_busy, plain_writers, some_ending_works, some_plan, some_works

NUMBERS = r"\[(?:\d+(?:, \d+)*)?\]"
PLAN = re.compile(rf"\{{(?:\d+: {NUMBERS}(?:, \d+: {NUMBERS})*)?\}}")

# Box 1 is busy in blocks 1 and 2, box 0 in block 3, box 6 in block 2.
WORK = [
    ([], ("fork", 1, 3)),
    ([("set", 1, 5)], ("go", 2)),
    ([("tell", 1), ("set", 6, 1), ("tell", 6)], ("go", 3)),
    ([("set", 0, 1)], ("go", 4)),
    ([], OUT),
]
RIGHT = {0: [3], 1: [1, 2], 6: [2]}


def read_as_plan(works, number, thing):
    """The plain reckoning: by how the thing is written, since that tells True from 1 and a list from a tuple."""
    if not PLAN.fullmatch(repr(thing)):
        return False
    plan = ast.literal_eval(repr(thing))
    work = works[number]
    if set(plan) != {box for box in range(8) if plain_writers(work, box)}:
        return False
    asked = plain_asks(works)
    for box, inside in plan.items():
        if any(low >= high for low, high in zip(inside, inside[1:])):
            return False
        if not set(plain_busy(works, number, box, asked)) <= set(inside) <= set(range(len(work))):
            return False
    return True


class IsPlan(unittest.TestCase):
    def hold(self, works, number, thing, expected):
        kept = repr(thing)
        self.assertIs(is_plan(works, number, thing), expected, (works, number, thing))
        self.assertEqual(repr(thing), kept)

    def hold_as_read(self, works, number, thing):
        expected = read_as_plan(works, number, thing)
        self.hold(works, number, thing, expected)
        return expected

    def with_box(self, box, inside):
        plan = dict(RIGHT)
        plan[box] = inside
        return plan

    def test_right_plans(self):
        self.hold([WORK], 0, RIGHT, True)
        self.hold([WORK], 0, {6: [0, 1, 2, 3, 4], 1: [0, 1, 2], 0: [3, 4]}, True)
        self.hold([[([("set", 7, 0)], OUT)]], 0, {7: [0]}, True)

    def test_a_work_without_boxes_has_the_empty_plan_alone(self):
        for thing, expected in (({}, True), ({0: []}, False), ([], False), ((), False), (None, False), (False, False)):
            self.hold([[([("tell", 0)], OUT)]], 0, thing, expected)

    def test_a_plan_of_that_work_alone(self):
        works = [WORK, [([("set", 0, 1)], OUT)], [([], ("go", 1)), ([("set", 0, 1)], OUT)]]
        for number, plan in enumerate((RIGHT, {0: [0]}, {0: [1]})):
            for other in range(3):
                self.hold(works, other, plan, other == number)

    def test_all_lists_of_blocks_of_one_box(self):
        for many in range(6):
            for inside in itertools.product(range(-1, 6), repeat=many):
                if many < 4 or list(inside) == sorted(inside):
                    rising = all(low < high for low, high in zip(inside, inside[1:]))
                    expected = rising and {1, 2} <= set(inside) <= {0, 1, 2, 3, 4}
                    self.hold([WORK], 0, self.with_box(1, list(inside)), expected)

    def test_busy_blocks_missing(self):
        for box, inside in ((1, []), (1, [1]), (1, [2]), (1, [0, 2, 3, 4]), (0, []), (0, [0, 1, 2, 4]), (6, [3])):
            self.hold([WORK], 0, self.with_box(box, inside), False)

    def test_busy_by_a_call(self):
        works = [[([("set", 2, 1)], ("go", 1)), ([("call", 1)], OUT)], [([("tell", 2)], OUT)], [([("tell", 3)], OUT)]]
        self.hold(works, 0, {2: [0]}, False)
        self.hold(works, 0, {2: [0, 1]}, True)
        works[0][1][0][0] = ("call", 2)
        self.hold(works, 0, {2: [0]}, True)

    def test_not_rising_or_twice(self):
        for inside in ([2, 1], [1, 1, 2], [1, 2, 2], [1, 2, 0], [4, 1, 2], [1, 2, 1]):
            self.hold([WORK], 0, self.with_box(1, inside), False)

    def test_no_blocks_of_the_work(self):
        for inside in ([-1, 1, 2], [1, 2, 5], [1, 2, 10 ** 30], [-10 ** 30, 1, 2], [1, 2, 16]):
            self.hold([WORK], 0, self.with_box(1, inside), False)

    def test_boxes_missing_or_too_many(self):
        for box in range(-1, 9):
            plan = dict(RIGHT)
            if box in RIGHT:
                del plan[box]
            else:
                plan[box] = []
            self.hold([WORK], 0, plan, False)
        self.hold([WORK], 0, {}, False)

    def test_true_and_false_are_no_numbers(self):
        # Python takes True for 1 and False for 0, as keys and as parts of lists.
        self.hold([WORK], 0, {0: [3], True: [1, 2], 6: [2]}, False)
        self.hold([WORK], 0, {False: [3], 1: [1, 2], 6: [2]}, False)
        self.hold([WORK], 0, self.with_box(1, [True, 2]), False)
        self.hold([WORK], 0, self.with_box(1, [False, 1, 2]), False)
        self.hold([WORK], 0, self.with_box(0, [False, 3]), False)

    def test_keys_of_other_kinds(self):
        for key in ("1", None, (1,), (), "", (1, (2, 3))):
            self.hold([WORK], 0, {0: [3], key: [1, 2], 6: [2]}, False)
            self.hold([WORK], 0, {0: [3], 1: [1, 2], 6: [2], key: []}, False)

    def test_something_else_in_its_place(self):
        for thing in ODD + (list(RIGHT.items()), tuple(RIGHT.items()), [RIGHT], (RIGHT,), repr(RIGHT), list(RIGHT)):
            self.hold([WORK], 0, thing, False)

    def test_something_else_in_the_place_of_a_list(self):
        told = set()
        for box in RIGHT:
            for odd in list(ODD) + list(bent(RIGHT[box])):
                told.add(self.hold_as_read([WORK], 0, self.with_box(box, odd)))
        self.assertEqual(told, {True, False})

    def test_something_else_in_the_place_of_a_block(self):
        told = set()
        full = {box: [0, 1, 2, 3, 4] for box in RIGHT}
        for box in full:
            for at in range(5):
                for odd in list(ODD) + list(bent(at)):
                    plan = dict(full)
                    plan[box] = [0, 1, 2, 3, 4]
                    plan[box][at] = odd
                    told.add(self.hold_as_read([WORK], 0, plan))
        self.assertEqual(told, {True, False})

    def test_things_ten_deep(self):
        deep = 1
        for _ in range(9):
            deep = [deep]
        for thing in (deep, {1: deep}, self.with_box(1, deep[0]), self.with_box(1, [1, 2, deep[0][0]])):
            self.hold([WORK], 0, thing, False)

    def test_plans_by_chance(self):
        told = []
        for seed in range(300):
            dice = random.Random(seed)
            works = some_works(seed) if seed % 2 else some_ending_works(seed, 5)
            number = dice.randrange(len(works))
            plan = some_plan(dice, works, number)
            self.hold(works, number, plan, True)
            for box in plan:
                for at in range(len(works[number])):
                    bent_plan = {other: list(inside) for other, inside in plan.items()}
                    bent_plan[box] = sorted({at} ^ set(plan[box]))
                    told.append(self.hold_as_read(works, number, bent_plan))
        self.assertGreater(told.count(True), 100)
        self.assertGreater(told.count(False), 100)


if __name__ == "__main__":
    unittest.main()
