"""cheapest, widest, least_cost and cheapest_plan, against all lists of blocks of small works."""

import copy
import random
import unittest

from fewsaves.cuts import cheapest, cheapest_plan, least_cost, widest
from fewsaves.lives import busy
from fewsaves.plans import cost, is_plan, plain_plan, tight_plan
from fewsaves.works import boxes_in, rounds_in, ways_of
from samples import (
    OUT, big_work, plain_asks, plain_best, plain_busy, plain_price, plain_ways, plain_writers, shapes, some_asked,
    some_counts, some_ending_works, some_prices, some_shut, some_works, written_at,
)

GREAT = 10 ** 12
DEAR = 10 ** 6

# Box 0 is set in block 2 alone, on a round of blocks 1, 2 and 3.
# Ways: (-1, 0), (0, 1), (1, 2), (2, 3), (3, 1), (3, 4), (4, 5).
ROUND = [
    ([], ("go", 1)), ([], ("go", 2)), ([("set", 0, 1), ("tell", 0)], ("go", 3)), ([], ("fork", 1, 4)), ([], OUT),
]

# Box 0 is set in block 1, which block 0 may go round. Ways: (-1, 0), (0, 1), (0, 2), (1, 2), (2, 3).
SIDE = [([], ("fork", 1, 2)), ([("set", 0, 1), ("tell", 0)], ("go", 2)), ([], OUT)]


class OneBox(unittest.TestCase):
    """What cheapest, widest and least_cost tell of one box."""

    def hold(self, asked, low, high, least):
        kept = copy.deepcopy(asked)
        for tells, expected in ((cheapest, low), (widest, high), (least_cost, least)):
            # How it is written tells lists from tuples, and True from 1.
            self.assertEqual(repr(tells(*asked)), repr(expected), (tells, asked))
            self.assertEqual(asked, kept)

    def hold_as_reckoned(self, asked, needed=None):
        works, number, box, counts, prices, shut = asked
        if needed is None:
            needed = plain_busy(works, number, box, plain_asks(works))
        least, best = plain_best(works[number], needed, counts, prices, shut)
        if least is None:
            self.hold(asked, None, None, None)
        else:
            low = sorted(set.intersection(*map(set, best)))
            high = sorted(set.union(*map(set, best)))
            # The document's own word: there is one within all of them, and one that has all of them within.
            self.assertIn(low, best)
            self.assertIn(high, best)
            self.hold(asked, low, high, least)
        return least, best

    def test_one_block(self):
        for counts, prices in (([1, 1], (1, 1)), ([0, 0], (0, 0)), ([3, 5], (7, 11)), ([GREAT, GREAT], (DEAR, DEAR))):
            least = counts[0] * prices[0] + counts[1] * prices[1]
            self.hold(([[([("set", 4, 0)], OUT)]], 0, 4, counts, prices, []), [0], [0], least)

    def test_where_the_way_round_is_gone_most(self):
        counts = [10, 1, 9, 1, 10]
        self.hold(([SIDE], 0, 0, counts, (1, 1), []), [1], [1], 2)
        self.hold(([SIDE], 0, 0, counts, (10, 1), []), [1], [1], 11)

    def test_where_a_round_is_gone_often(self):
        counts = [1, 1, 100, 100, 99, 1, 1]
        self.hold(([ROUND], 0, 0, counts, (1, 1), []), [1, 2, 3], [0, 1, 2, 3, 4], 2)
        self.hold(([ROUND], 0, 0, counts, (0, 1), []), [1, 2, 3], [0, 1, 2, 3, 4], 1)
        self.hold(([ROUND], 0, 0, counts, (1, 0), []), [1, 2, 3], [0, 1, 2, 3, 4], 1)
        self.hold(([ROUND], 0, 0, [2] + counts[1:], (1, 1), []), [1, 2, 3], [1, 2, 3, 4], 2)
        self.hold(([ROUND], 0, 0, counts[:6] + [2], (1, 1), []), [1, 2, 3], [0, 1, 2, 3], 2)

    def test_where_a_round_is_never_gone(self):
        self.hold(([ROUND], 0, 0, [1, 1, 1, 1, 0, 1, 1], (1, 1), []), [2], [0, 1, 2, 3, 4], 2)

    def test_what_a_save_costs_and_what_a_back_costs(self):
        # The door is gone 5 times, block 1 is come to 3 times by one way, and left 3 times.
        work = [([], ("fork", 1, 2)), ([("set", 0, 1)], ("go", 2)), ([], OUT)]
        counts = [5, 3, 2, 3, 5]
        self.hold(([work], 0, 0, counts, (1, 0), []), [1], [1], 3)
        self.hold(([work], 0, 0, counts, (0, 1), []), [1], [1], 3)
        # Where a save costs nothing and the way round isn't gone, all is saved for nothing but the backs.
        self.hold(([work], 0, 0, [3, 3, 0, 3, 3], (0, 1), []), [1], [0, 1, 2], 3)
        self.hold(([work], 0, 0, [3, 3, 0, 3, 4], (1, 1), []), [1], [0, 1], 6)

    def test_all_costs_nothing(self):
        for counts, prices in (([0] * 7, (5, 7)), ([5] * 7, (0, 0)), ([0] * 7, (0, 0))):
            self.hold(([ROUND], 0, 0, counts, prices, []), [2], [0, 1, 2, 3, 4], 0)

    def test_shut_ways_tie_blocks(self):
        counts = [1] * 7
        self.hold(([ROUND], 0, 0, counts, (1, 1), [(1, 2)]), [1, 2, 3], [0, 1, 2, 3, 4], 2)
        self.hold(([ROUND], 0, 0, [9, 1, 1, 1, 1, 1, 9], (1, 1), [(0, 1)]), [2], [2], 2)
        self.hold(([ROUND], 0, 0, [9, 1, 1, 1, 1, 1, 9], (1, 1), [(0, 1), (1, 2)]), [0, 1, 2, 3], [0, 1, 2, 3], 10)
        self.hold(([ROUND], 0, 0, counts, (1, 1), [(2, 3), (1, 2)]), [1, 2, 3], [0, 1, 2, 3, 4], 2)

    def test_shut_ways_between_blocks_that_are_both_outside(self):
        # Block 3 and block 4 are tied, and stay outside together though (2, 3) isn't the least gone way.
        self.hold(([ROUND], 0, 0, [1, 1, 1, 2, 0, 1, 3], (1, 1), [(3, 4)]), [2], [0, 1, 2], 3)

    def test_shut_door_and_shut_ways_out(self):
        counts = [1] * 7
        self.hold(([ROUND], 0, 0, counts, (1, 1), [(-1, 0)]), [2], [1, 2, 3, 4], 2)
        self.hold(([ROUND], 0, 0, counts, (1, 1), [(4, 5)]), [2], [0, 1, 2, 3], 2)
        self.hold(([ROUND], 0, 0, counts, (1, 1), [(4, 5), (-1, 0)]), [2], [1, 2, 3], 2)

    def test_the_ways_of_rounds_shut(self):
        shut = rounds_in(ROUND)
        self.assertEqual(shut, [(1, 2), (2, 3), (3, 1)])
        self.hold(([ROUND], 0, 0, [9, 9, 0, 0, 0, 9, 9], (1, 1), shut), [1, 2, 3], [0, 1, 2, 3, 4], 18)

    def test_none_where_shut_ways_lead_out(self):
        one = [[([("set", 4, 0)], OUT)]]
        for shut in ([(-1, 0)], [(0, 1)], [(-1, 0), (0, 1)]):
            self.hold((one, 0, 4, [1, 1], (1, 1), shut), None, None, None)
        for shut in ([(-1, 0), (0, 1), (1, 2)], [(2, 3), (3, 4), (4, 5)], [(2, 3), (3, 1), (0, 1), (-1, 0)]):
            self.hold(([ROUND], 0, 0, [0] * 7, (0, 0), shut), None, None, None)
            for way in shut:
                # One of them less, and there is a list.
                self.hold_as_reckoned(([ROUND], 0, 0, [0] * 7, (0, 0), [other for other in shut if other != way]))
                self.assertIsNotNone(
                    cheapest([ROUND], 0, 0, [0] * 7, (0, 0), [other for other in shut if other != way]))

    def test_all_ways_shut(self):
        for work in (ROUND, SIDE, [([("set", 0, 0)], OUT)]):
            ways = ways_of(work)
            self.hold(([work], 0, 0, [1] * len(ways), (1, 1), ways), None, None, None)
            self.hold(([work], 0, 0, [0] * len(ways), (0, 0), ways[::-1]), None, None, None)

    def test_a_way_from_a_block_to_itself(self):
        work = [([], ("go", 1)), ([("set", 0, 1)], ("fork", 1, 2)), ([], OUT)]
        for count in (0, 1, GREAT):
            for shut in ([], [(1, 1)]):
                self.hold(([work], 0, 0, [2, 1, count, 1, 2], (1, 1), shut), [1], [1], 2)

    def test_ways_both_ways_about_between_two_blocks(self):
        work = [([], ("go", 1)), ([("set", 0, 1)], ("fork", 2, 3)), ([], ("go", 1)), ([], OUT)]
        # Ways: (-1, 0), (0, 1), (1, 2), (1, 3), (2, 1), (3, 4).
        self.hold(([work], 0, 0, [1, 1, 4, 1, 4, 1], (1, 1), []), [1, 2], [0, 1, 2, 3], 2)
        self.hold(([work], 0, 0, [1, 1, 0, 1, 4, 1], (0, 1), []), [1], [0, 1, 2, 3], 1)
        self.hold(([work], 0, 0, [1, 1, 0, 1, 4, 1], (1, 1), []), [1, 2], [0, 1, 2, 3], 2)
        for shut in ([(1, 2)], [(2, 1)], [(1, 2), (2, 1)]):
            self.hold(([work], 0, 0, [1, 1, 0, 1, 0, 1], (1, 1), shut), [1, 2], [0, 1, 2, 3], 2)

    def test_blocks_that_never_come_to_an_end(self):
        # Blocks 1 and 2 go round for ever: what flows there can leave by the door alone.
        work = [([], ("fork", 1, 3)), ([("set", 0, 1)], ("go", 2)), ([], ("go", 1)), ([], OUT)]
        # Ways: (-1, 0), (0, 1), (0, 3), (1, 2), (2, 1), (3, 4).
        self.hold(([work], 0, 0, [9, 1, 8, 5, 5, 8], (1, 1), []), [1, 2], [1, 2], 1)
        self.hold(([work], 0, 0, [1, 1, 0, 5, 5, 0], (1, 1), []), [1, 2], [0, 1, 2, 3], 1)
        never = [([], ("go", 1)), ([("set", 0, 1)], ("go", 1))]
        self.hold(([never], 0, 0, [1, 1, 9], (1, 1), []), [1], [0, 1], 1)
        self.hold(([never], 0, 0, [1, 1, 9], (1, 1), [(1, 1)]), [1], [0, 1], 1)
        self.hold(([never], 0, 0, [1, 1, 9], (1, 1), [(-1, 0)]), [1], [1], 1)
        self.hold(([never], 0, 0, [1, 1, 9], (1, 1), [(-1, 0), (0, 1)]), None, None, None)

    def test_busy_by_a_call_of_a_work_that_asks(self):
        caller = [([("set", 2, 1)], ("go", 1)), ([], ("go", 2)), ([("call", 1)], ("go", 3)), ([], OUT)]
        works = [caller, [([("tell", 2)], OUT)]]
        self.hold((works, 0, 2, [9, 1, 1, 9, 9], (1, 1), []), [0, 1, 2], [0, 1, 2, 3], 18)
        works[1][0][0][0] = ("tell", 3)
        self.hold((works, 0, 2, [9, 1, 1, 9, 9], (1, 1), []), [0], [0, 1], 10)

    def test_of_that_work_and_that_box(self):
        works = [SIDE, ROUND, [([("set", 0, 1)], ("go", 1)), ([("set", 1, 1)], OUT)]]
        self.hold((works, 0, 0, [10, 1, 9, 1, 10], (1, 1), []), [1], [1], 2)
        self.hold((works, 1, 0, [1] * 7, (1, 1), []), [2], [0, 1, 2, 3, 4], 2)
        self.hold((works, 2, 0, [1, 0, 1], (1, 1), []), [0], [0], 1)
        self.hold((works, 2, 1, [1, 0, 1], (1, 1), []), [1], [1], 1)

    def test_a_shut_way_handed_in_twice(self):
        self.hold(([ROUND], 0, 0, [1] * 7, (1, 1), [(-1, 0), (-1, 0)]), [2], [1, 2, 3, 4], 2)

    def test_counts_and_prices_at_their_bounds(self):
        for prices in ((DEAR, DEAR), (0, DEAR), (DEAR, 0), (1, DEAR), (DEAR, 1)):
            for at in range(7):
                for low, high in ((0, GREAT), (GREAT - 1, GREAT), (GREAT, GREAT - 1), (GREAT, 0)):
                    counts = [low] * 7
                    counts[at] = high
                    self.hold_as_reckoned(([ROUND], 0, 0, counts, prices, []))
        self.hold(([ROUND], 0, 0, [GREAT] * 7, (DEAR, DEAR), []), [2], [0, 1, 2, 3, 4], 2 * GREAT * DEAR)

    def test_all_shapes_of_three_blocks(self):
        dice = random.Random(3)
        told = set()
        for work in shapes(3):
            for at in range(3):
                for _ in range(3):
                    asked = ([written_at(work, at, 5)], 0, 5, some_counts(dice, work), some_prices(dice), some_shut(dice, work))
                    least, best = self.hold_as_reckoned(asked, [at])
                    told.add(len(best))
        self.assertEqual(told, {0, 1, 2, 3, 4})

    def test_each_way_shut_by_itself_and_all_but_it(self):
        dice = random.Random(4)
        for work in (ROUND, SIDE):
            ways = ways_of(work)
            for way in ways:
                for _ in range(5):
                    others = (some_counts(dice, work), some_prices(dice))
                    self.hold_as_reckoned(([work], 0, 0) + others + ([way],))
                    self.hold_as_reckoned(([work], 0, 0) + others + ([other for other in ways if other != way],))

    def test_against_all_lists_of_blocks(self):
        none = alone = several = 0
        for seed in range(500):
            for asked, needed in some_asked(seed):
                least, best = self.hold_as_reckoned(asked, needed)
                none += least is None
                alone += len(best) == 1
                several += len(best) > 1
        self.assertGreater(min(none, alone, several), 100)

    def test_ways_shut_by_kind(self):
        none = 0
        for seed in range(120):
            for (works, number, box, counts, prices, shut), needed in some_asked(seed, 6):
                work = works[number]
                outs = [way for way in plain_ways(work) if way[1] == len(work)]
                for some in ([], rounds_in(work), [(-1, 0)], outs, [(-1, 0)] + outs, plain_ways(work)):
                    least, best = self.hold_as_reckoned((works, number, box, counts, prices, some), needed)
                    none += least is None
        self.assertGreater(none, 100)

    def test_works_of_16_blocks_against_all_lists_of_blocks(self):
        unlike = 0
        for seed in range(6):
            dice = random.Random(seed)
            work = big_work(dice)
            # Few ways shut, so that there is a list, and some of few counts, so that there are several.
            shut = dice.sample(ways_of(work), seed % 3)
            among = (range(1, 9), (0, 1, GREAT))[seed % 2]
            counts = [dice.choice(among) for way in ways_of(work)]
            asked = ([work], 0, 0, counts, (dice.randint(1, 3), dice.randint(1, 3)), shut)
            least, best = self.hold_as_reckoned(asked, busy([work], 0, 0))
            unlike += len(best) > 1
        self.assertGreater(unlike, 0)

    def test_works_of_16_blocks_by_neighbours(self):
        # No block more or less costs less; none less than cheapest and none more than widest costs as little.
        for seed in range(60):
            dice = random.Random(seed)
            work = big_work(dice)
            shut = some_shut(dice, work)
            counts, prices = some_counts(dice, work), some_prices(dice)
            for box in (0, 3):
                needed = busy([work], 0, box)
                asked = ([work], 0, box, counts, prices, shut)
                low, high, least = cheapest(*asked), widest(*asked), least_cost(*asked)
                if least is None:
                    self.assertEqual((low, high), (None, None))
                    continue
                self.assertTrue(set(needed) <= set(low) <= set(high))
                for inside in (low, high):
                    self.assertEqual(plain_price(work, inside, counts, prices, shut), least)
                    for at in range(16):
                        other = sorted({at} ^ set(inside))
                        price = plain_price(work, other, counts, prices, shut)
                        if price is not None and set(needed) <= set(other):
                            self.assertGreaterEqual(price, least)
                            if not set(low) <= set(other) <= set(high):
                                self.assertGreater(price, least)

    def test_told_as_plans_have_them(self):
        for seed in range(150):
            for asked, needed in some_asked(seed):
                works, number, box, counts, prices, shut = asked
                plan = tight_plan(works, number)
                for tells in (cheapest, widest):
                    inside = tells(*asked)
                    if inside is not None:
                        plan[box] = inside
                        self.assertIs(is_plan(works, number, plan), True)
                        self.assertEqual(cost(works[number], {box: inside}, counts, prices), least_cost(*asked))

    def test_what_is_told_is_the_askers_own(self):
        for seed in range(60):
            for asked, needed in some_asked(seed):
                for tells in (cheapest, widest):
                    first = tells(*asked)
                    kept = copy.deepcopy(first)
                    if first is not None:
                        first.append("ruined")
                        first[0] = None
                    self.assertEqual(tells(*asked), kept)


class CheapestPlan(unittest.TestCase):
    def hold(self, works, number, others, expected):
        asked = (works, number) + others
        kept = copy.deepcopy(asked)
        self.assertEqual(repr(cheapest_plan(*asked)), repr(expected), asked)
        self.assertEqual(asked, kept)

    def test_no_boxes(self):
        for shut in ([], [(-1, 0)], [(-1, 0), (0, 1)]):
            self.hold([[([("tell", 0)], OUT)]], 0, ([1, 1], (1, 1), shut), {})

    def test_boxes_rising(self):
        work = [([("set", 6, 1), ("set", 2, 1)], ("go", 1)), ([("set", 4, 1)], OUT)]
        self.hold([work], 0, ([3, 1, 2], (1, 1), []), {2: [0], 4: [1], 6: [0]})
        self.hold([work], 0, ([3, 4, 2], (1, 1), []), {2: [0, 1], 4: [0, 1], 6: [0, 1]})
        self.hold([work], 0, ([3, 1, 2], (1, 1), [(0, 1)]), {2: [0, 1], 4: [0, 1], 6: [0, 1]})

    def test_none_where_one_box_has_none(self):
        work = [([("set", 6, 1), ("set", 2, 1)], ("go", 1)), ([("set", 4, 1)], OUT)]
        self.hold([work], 0, ([3, 1, 2], (1, 1), [(-1, 0)]), None)
        self.hold([work], 0, ([3, 1, 2], (1, 1), [(1, 2)]), None)
        self.hold([work], 0, ([3, 1, 2], (1, 1), [(0, 1), (1, 2), (-1, 0)]), None)
        last = [([("set", 2, 1)], ("go", 1)), ([("set", 4, 1)], OUT)]
        self.hold([last], 0, ([3, 1, 2], (1, 1), [(1, 2)]), None)

    def test_of_that_work(self):
        works = [SIDE, ROUND]
        self.hold(works, 0, ([10, 1, 9, 1, 10], (1, 1), []), {0: [1]})
        self.hold(works, 1, ([1] * 7, (1, 1), []), {0: [2]})

    def drawn(self, seeds):
        for seed in range(seeds):
            dice = random.Random(seed)
            for works in (some_works(seed), some_ending_works(seed)):
                number = dice.randrange(len(works))
                work = works[number]
                yield works, number, (some_counts(dice, work), some_prices(dice), some_shut(dice, work))

    def test_against_a_plain_reckoning(self):
        none = 0
        for works, number, others in self.drawn(250):
            work = works[number]
            asked = plain_asks(works)
            expected = {}
            for box in range(8):
                if plain_writers(work, box):
                    least, best = plain_best(work, plain_busy(works, number, box, asked), *others)
                    expected[box] = sorted(set.intersection(*map(set, best))) if best else None
            if None in expected.values():
                expected = None
                none += 1
            self.hold(works, number, others, expected)
            if expected is not None:
                self.assertIs(is_plan(works, number, expected), True)
        self.assertGreater(none, 50)

    def test_it_costs_no_more_than_the_plain_plan_and_the_tight_one(self):
        less = 0
        for works, number, (counts, prices, shut) in self.drawn(300):
            work = works[number]
            told = cost(work, cheapest_plan(works, number, counts, prices, []), counts, prices)
            others = [cost(work, plan, counts, prices) for plan in (plain_plan(work), tight_plan(works, number))]
            self.assertLessEqual(told, min(others))
            less += told < min(others)
        self.assertGreater(less, 20)

    def test_its_lists_are_not_one_and_the_same(self):
        work = [([("set", 0, 1), ("set", 1, 1)], OUT)]
        plan = cheapest_plan([work], 0, [1, 1], (1, 1), [])
        plan[0].append(9)
        plan[7] = []
        self.assertEqual(plan[1], [0])
        self.hold([work], 0, ([1, 1], (1, 1), []), {0: [0], 1: [0]})

    def test_a_work_of_16_blocks_and_all_boxes(self):
        work = [([("set", at % 8, at)], ("go", at + 1)) for at in range(15)] + [([("tell", 0)], OUT)]
        plan = cheapest_plan([work], 0, [1] * 17, (1, 1), [])
        self.assertEqual(list(plan), list(range(8)))
        for box in boxes_in(work):
            needed = busy([work], 0, box)
            # Each way is gone as often, so one save and one bringing back are the least there can be.
            self.assertEqual(plan[box], list(range(needed[0], needed[-1] + 1)))
        self.assertEqual(cost(work, plan, [1] * 17, (1, 1)), 16)


if __name__ == "__main__":
    unittest.main()
