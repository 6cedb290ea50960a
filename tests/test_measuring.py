"""measured, and what it has to do with costs and with moves_done."""

import random
import unittest

from fewsaves.building import built_all
from fewsaves.measuring import measured
from fewsaves.plans import cost, plain_plan, tight_plan
from fewsaves.runs import meant, moves_done
from fewsaves.works import ways_of
from samples import OUT, PlainRun, some_boxes, some_choices, some_ending_works, some_plans, some_works

NONE = [0] * 8
MUCH = 1000


def one(*deeds):
    """A work of one block."""
    return [(list(deeds), OUT)]


# Its ways are (-1, 0), (0, 1), (1, 1), (1, 2), (2, 3).
ROUND = [([], ("go", 1)), ([("tell", 0)], ("fork", 1, 2)), ([("tell", 1)], OUT)]

# Its ways are (-1, 0), (0, 1), (0, 2), (1, 3), (2, 3).
FORK = [([], ("fork", 1, 2)), ([("tell", 0)], OUT), ([("tell", 1)], OUT)]


class Measured(unittest.TestCase):
    def hold(self, works, others, expected):
        told = measured(works, *others)
        self.assertEqual(told, expected)
        self.assertEqual(repr(told), repr(expected))
        self.assertEqual([len(counts) for counts in told], [len(ways_of(work)) for work in works])

    def test_one_block(self):
        self.hold([one()], (0, NONE, [], MUCH), [[1, 1]])

    def test_forks(self):
        self.hold([FORK], (0, NONE, [0], MUCH), [[1, 1, 0, 1, 0]])
        self.hold([FORK], (0, NONE, [3], MUCH), [[1, 0, 1, 0, 1]])
        self.hold([FORK], (0, NONE, [], MUCH), [[1, 1, 0, 1, 0]])

    def test_rounds(self):
        self.hold([ROUND], (0, NONE, [1], MUCH), [[1, 1, 0, 1, 1]])
        self.hold([ROUND], (0, NONE, [0, 0, 0, 1], MUCH), [[1, 1, 3, 1, 1]])

    def test_works_that_are_not_run(self):
        self.hold([ROUND, FORK, one()], (1, NONE, [], MUCH), [[0, 0, 0, 0, 0], [1, 1, 0, 1, 0], [0, 0]])
        self.hold([ROUND, FORK, one()], (2, NONE, [], MUCH), [[0, 0, 0, 0, 0], [0, 0, 0, 0, 0], [1, 1]])

    def test_calls(self):
        works = [one(("call", 1), ("call", 2), ("call", 1)), FORK, ROUND]
        self.hold(works, (0, NONE, [0, 0, 0, 1, 1], MUCH), [[1, 1], [2, 1, 1, 1, 1], [1, 1, 2, 1, 1]])

    def test_a_work_that_calls_itself(self):
        work = [([], ("fork", 2, 1)), ([("call", 0)], ("go", 2)), ([], OUT)]
        self.hold([work], (0, NONE, [1, 1, 1], MUCH), [[4, 3, 1, 3, 4]])

    def test_ways_as_ways_of_has_them(self):
        work = [([], ("fork", 3, 2)), ([], OUT), ([], ("go", 1)), ([], ("fork", 3, 1))]
        self.assertEqual(ways_of(work), [(-1, 0), (0, 2), (0, 3), (1, 4), (2, 1), (3, 1), (3, 3)])
        self.hold([work], (0, NONE, [0, 0, 0, 1], MUCH), [[1, 0, 1, 1, 0, 1, 2]])

    def test_a_way_is_gone_as_its_block_is_come_to(self):
        # Steps: block 0, block 1, tell, block 1, tell, block 2, tell.
        expected = [
            [0, 0, 0, 0, 0], [1, 0, 0, 0, 0], [1, 1, 0, 0, 0], [1, 1, 0, 0, 0], [1, 1, 1, 0, 0], [1, 1, 1, 0, 0],
            [1, 1, 1, 1, 0], [1, 1, 1, 1, 1], [1, 1, 1, 1, 1],
        ]
        for most, counts in enumerate(expected):
            self.hold([ROUND], (0, NONE, [0, 1], most), [counts])

    def test_a_way_out_is_gone_as_its_call_ends(self):
        works = [one(("call", 1), ("tell", 0)), one(("tell", 1))]
        # Steps: block 0, call, block 0 of the called one, tell, tell.
        expected = [
            [[0, 0], [0, 0]], [[1, 0], [0, 0]], [[1, 0], [0, 0]], [[1, 0], [1, 0]], [[1, 0], [1, 1]], [[1, 1], [1, 1]],
        ]
        for most, counts in enumerate(expected):
            self.hold(works, (0, NONE, [], most), counts)

    def test_a_way_out_needs_no_step(self):
        self.hold([one()], (0, NONE, [], 1), [[1, 1]])
        self.hold([one()], (0, NONE, [], 0), [[0, 0]])

    def test_a_run_that_is_deep(self):
        self.hold([one(("call", 0))], (0, NONE, [], MUCH), [[20, 0]])
        works = [one(("call", at + 1)) for at in range(23)] + [one()]
        self.hold(works, (0, NONE, [], MUCH), [[1, 0]] * 20 + [[0, 0]] * 4)
        self.hold(works, (4, NONE, [], MUCH), [[0, 0]] * 4 + [[1, 1]] * 20)

    def test_a_run_of_very_many_steps(self):
        self.hold([ROUND], (0, NONE, [], 20000), [[1, 1, 9999, 0, 0]])

    def test_400_choices(self):
        self.hold([ROUND], (0, NONE, [0] * 399 + [1], 20000), [[1, 1, 399, 1, 1]])

    def test_against_a_plain_reckoning(self):
        for seed in range(800):
            dice = random.Random(seed)
            works = some_works(seed)
            boxes, choices, most = some_boxes(dice), some_choices(dice), dice.randint(0, 120)
            for number in range(len(works)):
                plain = PlainRun(works, number, boxes, choices, most, True)
                self.assertEqual(measured(works, number, boxes, choices, most), plain.counts(), seed)


class CostsAreMovesDone(unittest.TestCase):
    """Of a run that is ended, the costs with counts so measured are the saves and backs of the built works."""

    def hold(self, works, plans, number, boxes, choices, most):
        counts = measured(works, number, boxes, choices, most)
        costs = tuple(
            sum(cost(work, plan, some, prices) for work, plan, some in zip(works, plans, counts))
            for prices in ((1, 0), (0, 1))
        )
        # Each way may have a new block on it, so twice as many steps are enough.
        self.assertEqual(moves_done(built_all(works, plans), number, boxes, choices, 2 * most), costs)
        return costs

    def test_on_works_by_chance(self):
        ended = 0
        moved = set()
        for seed in range(500):
            dice = random.Random(seed)
            for works in (some_works(seed), some_ending_works(seed)):
                tight = [tight_plan(works, number) for number in range(len(works))]
                plain = [plain_plan(work) for work in works]
                boxes, choices = some_boxes(dice), some_choices(dice, 60)
                if meant(works, 0, boxes, choices, MUCH)[0] == "ended":
                    ended += 1
                    for plans in (tight, plain, some_plans(dice, works), some_plans(dice, works)):
                        moved.add(self.hold(works, plans, 0, boxes, choices, MUCH))
        self.assertGreater(ended, 300)
        self.assertGreater(len(moved), 20)

    def test_on_a_round_that_calls(self):
        # Work 0 goes round and calls work 1, which forks and writes box 0 on one of its ways.
        works = [
            [([("set", 0, 1)], ("go", 1)), ([("call", 1)], ("fork", 1, 2)), ([("tell", 0)], OUT)],
            [([], ("fork", 1, 2)), ([("set", 0, 3), ("tell", 0)], ("go", 2)), ([("tell", 1)], OUT)],
        ]
        choices = [0, 0, 1, 0, 0, 1]
        self.assertEqual(measured(works, 0, NONE, choices, MUCH), [[1, 1, 2, 1, 1], [3, 2, 1, 2, 3]])
        self.assertEqual(self.hold(works, [tight_plan(works, 0), tight_plan(works, 1)], 0, NONE, choices, MUCH), (3, 3))
        self.assertEqual(self.hold(works, [plain_plan(work) for work in works], 0, NONE, choices, MUCH), (4, 4))


if __name__ == "__main__":
    unittest.main()
