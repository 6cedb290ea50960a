"""flow_paper and why_none: papers held against each sentence of the document, rows of blocks by theirs."""

import copy
import itertools
import random
import unittest

from fewsaves.cuts import cheapest, least_cost, widest
from fewsaves.flows import flow_paper, why_none
from fewsaves.lives import busy
from fewsaves.works import rounds_in, ways_of
from samples import (
    OUT, big_work, is_row, paper_faults, plain_best, plain_ways, shapes, some_asked, some_counts, some_prices, some_shut,
    written_at,
)

GREAT = 10 ** 12
DEAR = 10 ** 6

# Box 0 is set in block 2 alone, on a round of blocks 1, 2 and 3.
# Ways: (-1, 0), (0, 1), (1, 2), (2, 3), (3, 1), (3, 4), (4, 5).
ROUND = [
    ([], ("go", 1)), ([], ("go", 2)), ([("set", 0, 1), ("tell", 0)], ("go", 3)), ([], ("fork", 1, 4)), ([], OUT),
]

ONE = [([("set", 4, 0)], OUT)]


class FlowPaper(unittest.TestCase):
    def hold(self, asked, needed):
        """The paper shows of both lists that none is cheaper; told are the flows, None where there is no list."""
        kept = copy.deepcopy(asked)
        lists = (cheapest(*asked), widest(*asked))
        if None in lists:
            return None
        flows = flow_paper(*asked)
        self.assertEqual(asked, kept)
        self.assertIs(type(flows), list)
        for inside in lists:
            self.assertEqual(paper_faults(asked, needed, inside, flows), [], (asked, inside, flows))
        self.assertEqual(flow_paper(*asked), flows)
        return flows

    def test_one_block(self):
        # One paper alone is right: the door and the way out are paid in full.
        for count, other, save, back in ((1, 1, 1, 1), (3, 5, 7, 11), (0, 0, 0, 0), (GREAT, GREAT, DEAR, DEAR)):
            flows = self.hold(([ONE], 0, 4, [count, other], (save, back), []), [0])
            self.assertEqual(repr(flows), repr([-count * save, other * back]))

    def test_where_one_paper_alone_is_right(self):
        self.assertEqual(self.hold(([ROUND], 0, 0, [9, 1, 9, 9, 0, 1, 9], (1, 2), []), [2]), [-1, -1, -1, 2, 0, 2, 2])
        self.assertEqual(self.hold(([ROUND], 0, 0, [9, 9, 3, 2, 0, 9, 9], (1, 1), []), [2]), [-3, -3, -3, 2, 0, 2, 2])

    def test_shut_ways_may_bear_more_than_their_counts(self):
        flows = self.hold(([ROUND], 0, 0, [5, 0, 0, 0, 0, 0, 7], (1, 1), [(0, 1), (1, 2), (2, 3), (3, 4)]), [2])
        self.assertEqual(flows[0], -5)
        self.assertEqual(flows[-1], 7)

    def test_a_shut_door_and_a_shut_way_out(self):
        flows = self.hold(([ROUND], 0, 0, [0, 3, 5, 7, 0, 2, 0], (1, 1), [(-1, 0), (4, 5)]), [2])
        self.assertEqual((flows[0], flows[-1]), (-3, 2))

    def test_all_costs_nothing(self):
        for counts, prices in (([0] * 7, (5, 7)), ([5] * 7, (0, 0))):
            self.assertEqual(self.hold(([ROUND], 0, 0, counts, prices, []), [2]), [0] * 7)

    def test_the_ways_of_rounds_shut(self):
        asked = ([ROUND], 0, 0, [2, 3, 0, 0, 0, 5, 4], (1, 1), rounds_in(ROUND))
        flows = self.hold(asked, [2])
        self.assertEqual((flows[0], flows[-1]), (-2, 4))

    def test_blocks_that_never_come_to_an_end(self):
        never = [([], ("go", 1)), ([("set", 0, 1)], ("go", 2)), ([], ("go", 1))]
        # Ways: (-1, 0), (0, 1), (1, 2), (2, 1): there is no way out, so nothing but the door is paid.
        self.assertEqual(self.hold(([never], 0, 0, [1, 2, 9, 9], (3, 5), []), [1])[:2], [-3, -3])

    def test_counts_and_prices_at_their_bounds(self):
        for prices in ((DEAR, DEAR), (0, DEAR), (DEAR, 0), (1, DEAR)):
            for at in range(7):
                for low, high in ((0, GREAT), (GREAT - 1, GREAT), (GREAT, 0)):
                    counts = [low] * 7
                    counts[at] = high
                    self.assertIsNotNone(self.hold(([ROUND], 0, 0, counts, prices, []), [2]))

    def test_all_shapes_of_three_blocks(self):
        dice = random.Random(3)
        for work in shapes(3):
            for at in range(3):
                for _ in range(3):
                    asked = ([written_at(work, at, 5)], 0, 5, some_counts(dice, work), some_prices(dice), some_shut(dice, work))
                    self.hold(asked, [at])

    def test_drawn_works(self):
        below = papers = 0
        for seed in range(500):
            for asked, needed in some_asked(seed):
                flows = self.hold(asked, needed)
                papers += flows is not None
                below += flows is not None and any(flow < 0 for flow in flows[1:])
        self.assertGreater(papers, 400)
        self.assertGreater(below, 100)

    def test_works_of_16_blocks(self):
        papers = 0
        for seed in range(150):
            dice = random.Random(seed)
            work = big_work(dice, boxes=(0, 3), share=0.1)
            for box in (0, 3):
                needed = busy([work], 0, box)
                shut = dice.choice((some_shut(dice, work), rounds_in(work), [], dice.sample(ways_of(work), 3)))
                asked = ([work], 0, box, some_counts(dice, work), some_prices(dice), shut)
                flows = self.hold(asked, needed)
                papers += flows is not None
                if flows is None:
                    self.assertIsNone(least_cost(*asked))
        self.assertGreater(papers, 100)

    def test_a_wide_work_of_16_blocks(self):
        # Forks on forks: many paths, of like and unlike counts, to seven ways out.
        ends = [("fork", 2 * at + 1, 2 * at + 2) for at in range(7)] + [("go", 15)] + [OUT] * 8
        dice = random.Random(16)
        for top in (1, 9, GREAT):
            for at in range(16):
                work = [([("set", 0, 1)] if here == at else [], end) for here, end in enumerate(ends)]
                asked = ([work], 0, 0, [dice.randint(0, top) for way in ways_of(work)], (3, 2), [])
                self.assertIsNotNone(self.hold(asked, [at]))

    def test_what_is_told_is_the_askers_own(self):
        for seed in range(60):
            for asked, needed in some_asked(seed):
                if cheapest(*asked) is None:
                    continue
                first = flow_paper(*asked)
                kept = list(first)
                first.append("ruined")
                first[0] = None
                self.assertEqual(flow_paper(*asked), kept)


def plain_row_length(work, needed, shut):
    """How many blocks the shortest row has, found among all rows; None where there is none."""
    for many in range(1, len(work) + 1):
        for row in itertools.permutations(range(len(work)), many):
            if is_row(work, needed, shut, list(row)):
                return many
    return None


class WhyNone(unittest.TestCase):
    def hold(self, asked, expected):
        kept = copy.deepcopy(asked)
        self.assertEqual(repr(why_none(*asked)), repr(expected), asked)
        self.assertEqual(asked, kept)

    def hold_as_reckoned(self, asked, needed):
        works, number, box, shut = asked
        kept = copy.deepcopy(asked)
        told = why_none(*asked)
        self.assertEqual(asked, kept)
        many = plain_row_length(works[number], needed, shut)
        if many is None:
            self.assertIsNone(told)
        else:
            self.assertIs(type(told), list)
            self.assertTrue(all(type(at) is int for at in told))
            self.assertTrue(is_row(works[number], needed, shut, told), (asked, told))
            self.assertEqual(len(told), many)
        return many

    def test_one_block(self):
        self.hold(([ONE], 0, 4, []), None)
        for shut in ([(-1, 0)], [(0, 1)], [(0, 1), (-1, 0)]):
            self.hold(([ONE], 0, 4, shut), [0])

    def test_from_the_busy_block_to_the_door_or_out(self):
        self.hold(([ROUND], 0, 0, [(-1, 0), (0, 1), (1, 2)]), [2, 1, 0])
        self.hold(([ROUND], 0, 0, [(2, 3), (3, 4), (4, 5)]), [2, 3, 4])
        self.hold(([ROUND], 0, 0, [(4, 5), (3, 4), (3, 1), (1, 2)]), [2, 1, 3, 4])
        self.hold(([ROUND], 0, 0, [(-1, 0), (0, 1), (3, 1), (2, 3)]), [2, 3, 1, 0])

    def test_none_where_the_shut_ways_do_not_lead_out(self):
        for shut in (
            [], [(-1, 0)], [(4, 5)], [(-1, 0), (4, 5)], [(1, 2), (2, 3), (3, 1), (3, 4), (0, 1)], rounds_in(ROUND),
            [(-1, 0), (0, 1), (3, 1), (3, 4), (4, 5)],
        ):
            self.hold(([ROUND], 0, 0, shut), None)

    def test_the_fewest(self):
        ways = ways_of(ROUND)
        told = why_none([ROUND], 0, 0, ways)
        self.assertIn(told, ([2, 1, 0], [2, 3, 4]))
        self.hold(([ROUND], 0, 0, [way for way in ways if way != (1, 2)]), [2, 3, 4])
        self.hold(([ROUND], 0, 0, [way for way in ways if way != (4, 5)]), [2, 1, 0])

    def test_a_box_busy_in_several_blocks(self):
        work = [([("set", 1, 1)], ("go", 1)), ([], ("go", 2)), ([("tell", 1)], ("go", 3)), ([], OUT)]
        self.assertEqual(busy([work], 0, 1), [0, 1, 2])
        self.hold(([work], 0, 1, ways_of(work)), [0])
        self.hold(([work], 0, 1, [(3, 4), (2, 3), (0, 1)]), [2, 3])
        self.hold(([work], 0, 1, [(0, 1), (1, 2)]), None)

    def test_ways_from_a_block_to_itself_and_both_ways_about(self):
        work = [([], ("go", 1)), ([("set", 0, 1)], ("fork", 1, 2)), ([], ("fork", 1, 3)), ([], OUT)]
        self.hold(([work], 0, 0, [(1, 1), (3, 4)]), None)
        self.hold(([work], 0, 0, [(1, 1), (2, 1), (2, 3), (3, 4)]), [1, 2, 3])
        self.hold(([work], 0, 0, [(1, 2), (2, 1), (3, 4), (2, 3)]), [1, 2, 3])

    def test_a_shut_way_handed_in_twice(self):
        self.hold(([ONE], 0, 4, [(-1, 0), (-1, 0)]), [0])

    def test_all_shapes_of_three_blocks_with_all_ways_shut_or_not(self):
        seen = set()
        for work in shapes(3):
            ways = plain_ways(work)
            for many in range(len(ways) + 1):
                for shut in itertools.combinations(ways, many):
                    seen.add(self.hold_as_reckoned(([written_at(work, 1, 5)], 0, 5, list(shut)), [1]))
        self.assertEqual(seen, {None, 1, 2, 3})

    def test_drawn_works(self):
        seen = []
        for seed in range(400):
            for (works, number, box, counts, prices, shut), needed in some_asked(seed, 6):
                many = self.hold_as_reckoned((works, number, box, shut), needed)
                # There is a row just where there is no list.
                least, best = plain_best(works[number], needed, counts, prices, shut)
                self.assertEqual(many is None, least is not None)
                self.assertEqual(cheapest(works, number, box, counts, prices, shut) is None, many is not None)
                seen.append(many)
        for many in (None, 1, 2, 3):
            self.assertGreater(seen.count(many), 3, many)

    def test_works_of_16_blocks(self):
        told = []
        for seed in range(100):
            dice = random.Random(seed)
            work = big_work(dice, share=0.1)
            needed = busy([work], 0, 0)
            shut = [way for way in ways_of(work) if dice.random() < 0.7]
            row = why_none([work], 0, 0, shut)
            self.assertEqual(row is None, cheapest([work], 0, 0, [1] * len(ways_of(work)), (1, 1), shut) is not None)
            if row is not None:
                self.assertTrue(is_row(work, needed, shut, row))
                told.append(len(row))
        self.assertGreater(len(set(told)), 2)

    def test_a_row_of_16_blocks(self):
        work = [([], ("go", at + 1)) for at in range(15)] + [([("set", 0, 1)], OUT)]
        self.hold(([work], 0, 0, ways_of(work)[:-1]), list(range(15, -1, -1)))

    def test_what_is_told_is_the_askers_own(self):
        shut = [(-1, 0), (0, 1), (1, 2)]
        told = why_none([ROUND], 0, 0, shut)
        told.append("ruined")
        told[0] = None
        self.hold(([ROUND], 0, 0, shut), [2, 1, 0])


if __name__ == "__main__":
    unittest.main()
