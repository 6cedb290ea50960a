"""built and built_all, and what runs of built works tell."""

import copy
import random
import unittest

from fewsaves.building import built, built_all
from fewsaves.plans import plain_plan, splits, tight_plan
from fewsaves.runs import meant, run
from fewsaves.works import are_works, is_work
from samples import (
    OUT, PlainRun, plain_home, plain_put, some_boxes, some_choices, some_ending_works, some_plan, some_plans, some_works,
    wrong_turns,
)

MUCH = 600

# Block 0 leads to block 1, which writes boxes 0 and 3, or straight to block 2.
SIDE = [([("tell", 0)], ("fork", 1, 2)), ([("set", 3, 1), ("set", 0, 2)], ("go", 2)), ([("tell", 1)], OUT)]

# Block 1 leads to itself, or on to block 2.
ROUND = [([], ("go", 1)), ([("set", 0, 1)], ("fork", 1, 2)), ([("tell", 2)], OUT)]


class Built(unittest.TestCase):
    def hold(self, work, plan, expected):
        told = built(work, plan)
        self.assertEqual(told, expected)
        self.assertEqual(repr(told), repr(expected))
        self.assertIs(is_work(told, 24), True)

    def test_nothing_put(self):
        work = [([("tell", 0), ("call", 3)], ("go", 1)), ([], OUT)]
        self.hold(work, {}, work)

    def test_the_door_and_a_way_out(self):
        self.hold([([("set", 4, 0)], OUT)], {4: [0]}, [([("save", 4), ("set", 4, 0), ("back", 4)], OUT)])

    def test_no_deeds_in_the_block(self):
        work = [([], ("go", 1)), ([("set", 4, 0)], ("go", 2)), ([], OUT)]
        self.hold(work, {4: [0, 1, 2]}, [([("save", 4)], ("go", 1)), ([("set", 4, 0)], ("go", 2)), ([("back", 4)], OUT)])
        self.hold(work, {4: [1]}, [([("save", 4)], ("go", 1)), ([("set", 4, 0), ("back", 4)], ("go", 2)), ([], OUT)])

    def test_at_the_begin_of_a_block(self):
        self.hold(SIDE, {0: [1], 3: [1]}, [
            ([("tell", 0)], ("fork", 1, 2)),
            ([("save", 0), ("save", 3), ("set", 3, 1), ("set", 0, 2), ("back", 0), ("back", 3)], ("go", 2)),
            ([("tell", 1)], OUT),
        ])

    def test_on_a_split_way(self):
        self.hold(SIDE, {0: [0, 1], 3: [1, 2]}, [
            ([("save", 0), ("tell", 0)], ("fork", 1, 3)),
            ([("save", 3), ("set", 3, 1), ("set", 0, 2), ("back", 0)], ("go", 2)),
            ([("tell", 1), ("back", 3)], OUT),
            ([("back", 0), ("save", 3)], ("go", 2)),
        ])

    def test_a_split_way_that_other_leads_to_and_one_that_to_leads_to(self):
        turned = [([("tell", 0)], ("fork", 2, 1))] + SIDE[1:]
        self.assertEqual(built(turned, {0: [0, 1], 3: [1, 2]})[0], ([("save", 0), ("tell", 0)], ("fork", 3, 1)))
        self.assertEqual(built(turned, {0: [0, 1], 3: [1, 2]})[3], ([("back", 0), ("save", 3)], ("go", 2)))

    def test_things_of_one_home_by_rising_boxes(self):
        # Saves and backs by turns, whatever the order of the plan.
        work = [
            ([("set", box, 0) for box in (6, 4, 2, 0)], ("go", 1)), ([("set", box, 0) for box in (7, 5, 3, 1)], OUT),
        ]
        boxes = list(range(8))
        for order in (boxes, boxes[::-1], [3, 1, 4, 0, 5, 2, 6, 7]):
            first, second = built(work, {box: [box % 2] for box in order})
            self.assertEqual(first[0][:4], [("save", box) for box in (0, 2, 4, 6)])
            self.assertEqual(first[0][8:], [("save" if box % 2 else "back", box) for box in boxes])
            self.assertEqual(second[0][4:], [("back", box) for box in (1, 3, 5, 7)])

    def test_things_of_a_begin_by_rising_boxes(self):
        work = [([("set", 2, 0), ("set", 6, 0)], ("fork", 1, 2)), ([("set", 1, 0), ("set", 4, 0)], OUT), ([], OUT)]
        told = built(work, {6: [0], 4: [1], 2: [0], 1: [1]})
        self.assertEqual(told[1][0][:4], [("save", 1), ("back", 2), ("save", 4), ("back", 6)])
        self.assertEqual(told[2][0], [("back", 2), ("back", 6)])
        self.assertEqual(len(told), 3)

    def test_a_round(self):
        self.hold(ROUND, {0: [1]}, [
            ([("save", 0)], ("go", 1)), ([("set", 0, 1)], ("fork", 1, 2)), ([("back", 0), ("tell", 2)], OUT),
        ])

    def test_a_round_that_is_split(self):
        # From block 2 one way leads back to block 1, one on to block 3.
        work = [([], ("go", 1)), ([("set", 0, 1)], ("go", 2)), ([], ("fork", 1, 3)), ([], OUT)]
        self.hold(work, {0: [1]}, [
            ([("save", 0)], ("go", 1)), ([("set", 0, 1), ("back", 0)], ("go", 2)), ([], ("fork", 4, 3)), ([], OUT),
            ([("save", 0)], ("go", 1)),
        ])

    def test_new_blocks_are_numbered_in_the_order_of_splits(self):
        work = [([("set", 0, 1)], ("fork", 2, 1)), ([], ("fork", 3, 2)), ([], ("fork", 3, 1)), ([("set", 0, 1)], OUT)]
        self.hold(work, {0: [0, 3]}, [
            ([("save", 0), ("set", 0, 1)], ("fork", 5, 4)), ([], ("fork", 6, 2)), ([], ("fork", 7, 1)),
            ([("set", 0, 1), ("back", 0)], OUT),
            ([("back", 0)], ("go", 1)), ([("back", 0)], ("go", 2)), ([("save", 0)], ("go", 3)), ([("save", 0)], ("go", 3)),
        ])
        self.hold(work, {0: [0, 1, 3]}, [
            ([("save", 0), ("set", 0, 1)], ("fork", 4, 1)), ([], ("fork", 3, 5)), ([], ("fork", 7, 6)),
            ([("set", 0, 1), ("back", 0)], OUT),
            ([("back", 0)], ("go", 2)), ([("back", 0)], ("go", 2)), ([("save", 0)], ("go", 1)), ([("save", 0)], ("go", 3)),
        ])

    def test_both_ways_of_a_fork_split(self):
        work = [([], ("fork", 1, 2)), ([("set", 0, 1)], ("go", 2)), ([("set", 0, 2)], ("fork", 1, 3)), ([], OUT)]
        self.hold(work, {0: [1, 2]}, [
            ([], ("fork", 4, 5)), ([("set", 0, 1)], ("go", 2)), ([("set", 0, 2)], ("fork", 1, 3)), ([("back", 0)], OUT),
            ([("save", 0)], ("go", 1)), ([("save", 0)], ("go", 2)),
        ])

    def test_each_way_out_by_itself(self):
        work = [([("set", 0, 1)], ("fork", 1, 2)), ([("tell", 0)], OUT), ([], OUT)]
        self.hold(work, {0: [0, 1]}, [
            ([("save", 0), ("set", 0, 1)], ("fork", 1, 2)), ([("tell", 0), ("back", 0)], OUT), ([("back", 0)], OUT),
        ])

    def test_sixteen_blocks_of_24_deeds(self):
        ends = [("fork", at + 1, (at + 2) % 16 or 1) for at in range(15)] + [OUT]
        work = [([("set", box, at) for box in range(8) for _ in range(3)], end) for at, end in enumerate(ends)]
        told = built(work, plain_plan(work))
        self.assertEqual(len(told), 16)
        self.assertEqual(told[0][0], [("save", box) for box in range(8)] + work[0][0])
        self.assertEqual(told[15][0], work[15][0] + [("back", box) for box in range(8)])
        self.assertEqual(told[1:15], work[1:15])

    def test_against_a_plain_reckoning(self):
        new_blocks = set()
        for seed in range(400):
            dice = random.Random(seed)
            for works in (some_works(seed), some_ending_works(seed)):
                number = dice.randrange(len(works))
                plan = some_plan(dice, works, number)
                expected = plainly_built(works[number], plan)
                self.hold(works[number], plan, expected)
                new_blocks.add(len(expected) - len(works[number]))
        self.assertGreater(len(new_blocks), 4)

    def test_ways_are_split_only_where_told(self):
        for seed in range(200):
            dice = random.Random(seed)
            works = some_ending_works(seed)
            for work, plan in zip(works, some_plans(dice, works)):
                self.assertEqual(len(built(work, plan)), len(work) + len(splits(work, plan)))


def plainly_built(work, plan):
    """Built by putting one thing after the other, the greatest boxes first at begins, the least ones first at ends."""
    told = [(list(deeds), list(end)) for deeds, end in work]
    put = plain_put(work, plan)
    ways = sorted({way for way, word, box in put if plain_home(work, way) == "split"})
    for start, to in ways:
        end = told[start][1]
        # Only what stood there at first is led elsewhere; new numbers are beyond it.
        end[end.index(to)] = len(told)
        told.append(([], ["go", to]))
    for box in range(8):
        for way, word, other in put:
            if other == box and plain_home(work, way) == "end":
                told[way[0]][0].append((word, box))
            if other == box and plain_home(work, way) == "split":
                told[len(work) + ways.index(way)][0].append((word, box))
    for box in range(7, -1, -1):
        for way, word, other in put:
            if other == box and plain_home(work, way) == "begin":
                told[way[1]][0].insert(0, (word, box))
    return [(deeds, tuple(end)) for deeds, end in told]


class BuiltAll(unittest.TestCase):
    def test_answers(self):
        work = [([("set", 4, 0)], OUT)]
        laid = [([("save", 4), ("set", 4, 0), ("back", 4)], OUT)]
        self.assertEqual(built_all([work], [{4: [0]}]), [laid])
        told = built_all([work, [([("call", 0)], OUT)], ROUND], [{4: [0]}, {}, {0: [1]}])
        self.assertEqual(told, [laid, [([("call", 0)], OUT)], built(ROUND, {0: [1]})])
        self.assertIs(type(told), list)

    def test_each_work_by_its_own_plan(self):
        for seed in range(100):
            works = some_works(seed)
            plans = some_plans(random.Random(seed), works)
            told = built_all(works, plans)
            self.assertEqual(told, [built(work, plan) for work, plan in zip(works, plans)])
            self.assertIs(are_works(told), True)

    def test_24_works(self):
        works = [[([("set", at % 8, at), ("call", (at + 1) % 24)], OUT)] for at in range(24)]
        told = built_all(works, [plain_plan(work) for work in works])
        self.assertEqual(told, [
            [([("save", at % 8), ("set", at % 8, at), ("call", (at + 1) % 24), ("back", at % 8)], OUT)]
            for at in range(24)
        ])

    def test_like_works_are_told_as_lists_of_their_own(self):
        work = [([("set", 4, 0)], OUT)]
        plan = {4: [0]}
        told = built_all([work, work], [plan, plan])
        told[0][0][0].append("ruined")
        self.assertEqual(told[1], built(work, plan))
        self.assertEqual((work, plan), ([([("set", 4, 0)], OUT)], {4: [0]}))


class RunsOfBuiltWorks(unittest.TestCase):
    """With any plans they have no faults, are never bare, and tell what meant tells of the plain ones."""

    def hold(self, works, plans, others):
        number, boxes, choices = others
        laid = built_all(works, plans)
        state, told = meant(works, number, boxes, choices, MUCH)
        # A way has at most one new block on it, so twice as many steps are enough.
        ran = run(laid, number, boxes, choices, 2 * MUCH)
        if state == "going":
            self.assertIn(ran[0], ("ended", "going", "deep"))
            some = run(laid, number, boxes, choices, MUCH)
            self.assertEqual((some[0], some[1]), ("going", told[:len(some[1])]))
            self.assertEqual(ran[1][:len(told)], told)
        else:
            self.assertEqual(ran[:2], (state, told))
        self.assertEqual(ran[2], [])
        if state == "ended":
            self.assertEqual(ran[3], boxes)
        self.assertEqual(wrong_turns(PlainRun(laid, number, boxes, choices, 2 * MUCH, False)), [])
        return state

    def hold_with_plans(self, works, dice, many):
        """The states of runs of the works with tight plans, plain ones, and so many by chance."""
        tight = [tight_plan(works, number) for number in range(len(works))]
        plans = [tight, [plain_plan(work) for work in works]] + [some_plans(dice, works) for _ in range(many)]
        others = (dice.randrange(len(works)), some_boxes(dice), some_choices(dice, 60))
        return [self.hold(works, some, others) for some in plans]

    def test_works_that_call_one_another_in_any_way(self):
        states = []
        for seed in range(250):
            states += self.hold_with_plans(some_works(seed), random.Random(seed), 2)
        for state in ("ended", "going", "deep"):
            self.assertGreater(states.count(state), 40, state)

    def test_works_of_more_blocks(self):
        states = []
        for seed in range(150):
            states += self.hold_with_plans(some_ending_works(seed), random.Random(seed), 2)
        self.assertGreater(states.count("ended"), 100)

    def test_24_works_of_16_blocks(self):
        dice = random.Random(24)
        ends = [("fork", at + 1, max(1, at - 2)) if at % 3 == 2 else ("go", at + 1) for at in range(15)] + [OUT]
        works = []
        for number in range(24):
            deeds = [[dice.choice([
                ("set", dice.randrange(8), dice.randint(-10 ** 12, 10 ** 12)), ("add", dice.randrange(8), dice.randrange(8)),
                ("tell", dice.randrange(8)),
            ]) for _ in range(5)] for _ in ends]
            if number < 23:
                deeds[dice.randrange(16)].append(("call", number + 1))
            works.append(list(zip(deeds, ends)))
        self.assertIs(are_works(works), True)
        plans = some_plans(dice, works)
        laid = built_all(works, plans)
        boxes = [dice.randint(-10 ** 12, 10 ** 12) for _ in range(8)]
        for number, expected in ((3, "deep"), (4, "ended"), (12, "ended")):
            state, told = meant(works, number, boxes, [], 20000)
            self.assertEqual(state, expected)
            self.assertGreater(len(told), 100)
            ran = run(laid, number, boxes, [], 40000)
            self.assertEqual(ran[:3], (state, told, []))
            if state == "ended":
                self.assertEqual(ran[3], boxes)

    def test_callees_that_ask_what_the_caller_saved(self):
        # The callee tells box 0 and writes it; the caller reads its own number behind the call.
        caller = [([("set", 0, 5)], ("go", 1)), ([("call", 1), ("tell", 0)], ("fork", 1, 2)), ([("tell", 0)], OUT)]
        callee = [([("tell", 0)], ("fork", 1, 2)), ([("set", 0, 8), ("tell", 0)], ("go", 2)), ([], OUT)]
        works = [caller, callee]
        others = (0, [7, 6, 5, 4, 3, 2, 1, 0], [0, 0, 1, 1])
        expected = ("ended", [5, 8, 5, 5, 5, 5])
        self.assertEqual(meant(works, *others, MUCH), expected)
        for plans in ([tight_plan(works, 0), tight_plan(works, 1)], [plain_plan(caller), plain_plan(callee)]):
            self.assertEqual(run(built_all(works, plans), *others, MUCH), expected + ([], others[1]))

    def test_what_was_told_may_be_handed_in_again(self):
        for seed in range(60):
            works = some_ending_works(seed)
            laid = built_all(works, some_plans(random.Random(seed), works))
            kept = copy.deepcopy(laid)
            ran = run(laid, 0, [1] * 8, [0, 1] * 9, MUCH)
            self.assertEqual(laid, kept)
            self.assertEqual(run(laid, 0, [1] * 8, [0, 1] * 9, MUCH), ran)


if __name__ == "__main__":
    unittest.main()
