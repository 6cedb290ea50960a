"""shows_cheapest and shows_none: right papers and rows, and something else at each place of them."""

import copy
import itertools
import random
import unittest

from fewsaves.cuts import cheapest, widest
from fewsaves.flowcheck import shows_cheapest, shows_none
from fewsaves.flows import flow_paper, why_none
from fewsaves.lives import busy
from fewsaves.works import ways_of
from samples import (
    ODD, OUT, bent, big_work, is_row, paper_faults, plain_lists, plain_ways, shapes, some_asked, some_counts,
    some_prices, some_shut, written_at,
)

GREAT = 10 ** 12

# Box 0 is set in block 2 alone, on a round of blocks 1, 2 and 3.
# Ways: (-1, 0), (0, 1), (1, 2), (2, 3), (3, 1), (3, 4), (4, 5).
ROUND = [
    ([], ("go", 1)), ([], ("go", 2)), ([("set", 0, 1), ("tell", 0)], ("go", 3)), ([], ("fork", 1, 4)), ([], OUT),
]
COUNTS = [9, 1, 9, 9, 0, 1, 9]
# The one right paper of these counts and prices 1 and 2.
FLOWS = [-1, -1, -1, 2, 0, 2, 2]

ONE = [([("set", 4, 0)], OUT)]


def is_numbers(thing):
    """Whether it is a list of numbers alone, by how it is written, which tells True from 1."""
    return type(thing) is list and all(type(part) is int for part in thing)


class ShowsCheapest(unittest.TestCase):
    def hold(self, asked, inside, flows, expected):
        kept = copy.deepcopy((asked, inside, flows))
        self.assertIs(shows_cheapest(*asked, inside, flows), expected, (asked, inside, flows))
        self.assertEqual(repr((asked, inside, flows)), repr(kept))

    def hold_as_reckoned(self, asked, needed, inside, flows):
        expected = is_numbers(inside) and paper_faults(asked, needed, inside, flows) == []
        self.hold(asked, inside, flows, expected)
        return expected

    def round_asked(self, shut=(), prices=(1, 2), counts=COUNTS):
        return ([ROUND], 0, 0, list(counts), prices, list(shut))

    def test_one_block(self):
        asked = ([ONE], 0, 4, [3, 5], (7, 11), [])
        self.hold(asked, [0], [-21, 55], True)
        for flows in ([21, 55], [-21, -55], [0, 0], [-20, 55], [-21, 54], [-22, 55], [-22, 54], [-20, 56], [55, -21]):
            self.hold(asked, [0], flows, False)
        self.hold(asked, [], [-21, 55], False)
        self.hold(asked, [1], [-21, 55], False)

    def test_the_one_right_paper(self):
        self.hold(self.round_asked(), [1, 2, 3], FLOWS, True)
        for at in range(7):
            for more in (-2, -1, 1, 2, GREAT):
                flows = list(FLOWS)
                flows[at] += more
                self.hold(self.round_asked(), [1, 2, 3], flows, False)

    def test_all_lists_with_the_right_paper(self):
        for inside in plain_lists(ROUND, []):
            self.hold(self.round_asked(), inside, FLOWS, inside == [1, 2, 3])

    def test_several_lists_that_cost_least(self):
        asked = self.round_asked(counts=[1, 1, 9, 9, 0, 1, 1])
        for inside in ([1, 2, 3], [0, 1, 2, 3], [1, 2, 3, 4], [0, 1, 2, 3, 4]):
            self.hold(asked, inside, FLOWS, True)
        for inside in ([0, 2, 3], [2], [2, 3], [1, 2], [0, 1, 2], [1, 3], [0, 1, 2, 4]):
            self.hold(asked, inside, FLOWS, False)

    def test_more_than_the_price_of_a_back(self):
        # Blocks keep their sums and the whole is right, but one way bears too much.
        asked = ([ROUND], 0, 0, [1] * 7, (1, 1), [])
        self.hold(asked, [2], [-1, -1, -1, 1, 0, 1, 1], True)
        self.hold(asked, [2], [0, 0, 0, 2, 0, 2, 2], False)
        self.hold(asked, [2], [-2, -2, -2, 0, 0, 0, 0], False)

    def test_round_flows_may_be_any_within_their_limits(self):
        asked = ([ROUND], 0, 0, [1, 1, 3, 3, 3, 1, 1], (1, 1), [])
        for inside in ([1, 2, 3], [0, 1, 2, 3, 4]):
            for around in range(-5, 6):
                flows = [-1, -1, around - 1, around + 1, around, 1, 1]
                self.hold(asked, inside, flows, -2 <= around <= 2)

    def test_blocks_that_are_busy_need_no_like_sums(self):
        work = [([("set", 1, 1)], ("go", 1)), ([], ("go", 2)), ([("tell", 1)], ("go", 3)), ([], OUT)]
        self.assertEqual(busy([work], 0, 1), [0, 1, 2])
        asked = ([work], 0, 1, [1, 5, 6, 1, 2], (1, 1), [])
        for first in range(-6, 7):
            for second in range(-7, 8):
                self.hold(asked, [0, 1, 2], [-1, first, second, 1, 1], abs(first) <= 5 and abs(second) <= 6)
        self.hold(asked, [0, 1, 2], [-1, 0, 0, 0, 1], False)

    def test_shut_ways_may_bear_anything_that_adds_up(self):
        shut = [(2, 3), (3, 1), (1, 2)]
        asked = self.round_asked(shut)
        for around in (-GREAT, -50, -1, 0, 1, 50, GREAT):
            self.hold(asked, [1, 2, 3], [-1, -1, around - 1, around + 2, around, 2, 2], True)
            self.hold(asked, [1, 2, 3], [-1, -1, around - 1, around + 2, around + 1, 2, 2], False)

    def test_lists_that_put_something_on_a_shut_way(self):
        self.hold(self.round_asked([(0, 1)]), [1, 2, 3], FLOWS, False)
        self.hold(self.round_asked([(3, 4)]), [1, 2, 3], FLOWS, False)
        self.hold(self.round_asked([(-1, 0), (1, 2), (2, 3), (3, 1), (4, 5)]), [1, 2, 3], FLOWS, True)

    def test_a_shut_door_and_a_shut_way_out(self):
        asked = ([ROUND], 0, 0, [0, 3, 5, 7, 0, 2, 0], (1, 1), [(-1, 0), (4, 5)])
        self.hold(asked, [1, 2, 3], [-3, -3, -3, 2, 0, 2, 2], True)
        self.hold(asked, [1, 2, 3], [-4, -3, -3, 2, 0, 2, 1], False)
        self.hold(asked, [0, 1, 2, 3], [-3, -3, -3, 2, 0, 2, 2], False)

    def test_of_that_work_and_that_box(self):
        both = [([("set", 0, 1)], ("go", 1)), ([("set", 1, 1)], OUT)]
        works = [ONE, ROUND, both]
        self.hold((works, 1, 0, COUNTS, (1, 2), []), [1, 2, 3], FLOWS, True)
        self.hold((works, 0, 4, [3, 5], (7, 11), []), [0], [-21, 55], True)
        self.hold((works, 2, 0, [1, 0, 1], (1, 1), []), [0], [-1, 0, 0], True)
        self.hold((works, 2, 1, [1, 0, 1], (1, 1), []), [0], [-1, 0, 0], False)
        self.hold((works, 2, 1, [1, 0, 1], (1, 1), []), [1], [0, 0, 1], True)

    def test_busy_by_a_call(self):
        works = [[([("set", 2, 1)], ("go", 1)), ([("call", 1)], OUT)], [([("tell", 2)], OUT)]]
        asked = (works, 0, 2, [1, 0, 1], (1, 1), [])
        self.hold(asked, [0], [-1, 0, 0], False)
        self.hold(asked, [0, 1], [-1, 0, 1], True)
        works[1][0][0][0] = ("tell", 3)
        self.hold(asked, [0], [-1, 0, 0], True)

    def test_something_else_in_the_place_of_either(self):
        for odd in ODD:
            self.hold(self.round_asked(), odd, FLOWS, False)
            self.hold(self.round_asked(), [1, 2, 3], odd, False)
            self.hold(self.round_asked(), odd, odd, False)

    def test_bent_lists_and_bent_flows(self):
        told = set()
        asked = self.round_asked()
        for inside in bent([1, 2, 3]):
            told.add(self.hold_as_reckoned(asked, [2], inside, FLOWS))
        for flows in bent(FLOWS):
            told.add(self.hold_as_reckoned(asked, [2], [1, 2, 3], flows))
        self.assertEqual(told, {False})

    def test_something_else_at_each_place(self):
        told = []
        asked = self.round_asked()
        for at in range(3):
            for odd in list(ODD) + list(bent(at + 1)):
                inside = [1, 2, 3]
                inside[at] = odd
                told.append(self.hold_as_reckoned(asked, [2], inside, FLOWS))
        for at in range(7):
            for odd in list(ODD) + list(bent(FLOWS[at])):
                flows = list(FLOWS)
                flows[at] = odd
                told.append(self.hold_as_reckoned(asked, [2], [1, 2, 3], flows))
        self.assertGreater(told.count(True), 3)
        self.assertGreater(told.count(False), 500)

    def test_true_and_false_are_no_numbers(self):
        asked = ([ONE], 0, 4, [1, 1], (0, 1), [])
        self.hold(asked, [0], [0, 1], True)
        self.hold(asked, [False], [0, 1], False)
        self.hold(asked, [0], [False, 1], False)
        self.hold(asked, [0], [0, True], False)
        asked = self.round_asked()
        self.hold(asked, [True, 2, 3], FLOWS, False)
        self.hold(asked, [1, 2, 3], FLOWS[:4] + [False] + FLOWS[5:], False)

    def test_things_ten_deep(self):
        deep = 1
        for _ in range(9):
            deep = [deep]
        for thing in (deep, [deep], [0, deep], {0: deep}, (deep,)):
            self.hold(([ONE], 0, 4, [1, 1], (1, 1), []), thing, [-1, 1], False)
            self.hold(([ONE], 0, 4, [1, 1], (1, 1), []), [0], thing, False)

    def test_where_there_is_no_list(self):
        asked = ([ONE], 0, 4, [1, 1], (1, 1), [(-1, 0)])
        for inside, flows in itertools.product(([], [0], None), ([-1, 1], [0, 0], None, [-GREAT, 1])):
            self.hold(asked, inside, flows, False)

    def test_all_small_flows_of_small_works(self):
        dice = random.Random(2)
        told = []
        for work in shapes(2):
            for at, seed in itertools.product(range(2), range(6)):
                asked = (
                    [written_at(work, at, 5)], 0, 5, [dice.randint(0, 2) for way in plain_ways(work)],
                    (dice.randint(0, 1), dice.randint(0, 1)), some_shut(dice, work),
                )
                for inside in plain_lists(work, []):
                    for flows in itertools.product(range(-2, 3), repeat=len(plain_ways(work))):
                        told.append(self.hold_as_reckoned(asked, [at], inside, list(flows)))
        self.assertGreater(told.count(True), 30)

    def test_papers_of_drawn_works(self):
        told = []
        for seed in range(250):
            dice = random.Random(seed)
            for asked, needed in some_asked(seed):
                lists = [cheapest(*asked), widest(*asked)]
                if None in lists:
                    continue
                flows = flow_paper(*asked)
                for inside in lists:
                    self.hold(asked, inside, flows, True)
                for at in range(len(asked[0][asked[1]])):
                    inside = sorted({at} ^ set(lists[0]))
                    told.append(self.hold_as_reckoned(asked, needed, inside, flows))
                for at in range(len(flows)):
                    other = list(flows)
                    other[at] += dice.choice((-1, 1, 2, GREAT))
                    told.append(self.hold_as_reckoned(asked, needed, lists[1], other))
                turned = lists[1][::-1]
                told.append(self.hold_as_reckoned(asked, needed, turned, flows))
                self.hold(asked, lists[0] + lists[0][-1:], flows, False)
                self.hold(asked, lists[0], flows + [0], False)
                self.hold(asked, lists[0], flows[:-1], False)
        self.assertGreater(told.count(True), 100)
        self.assertGreater(told.count(False), 1000)

    def test_no_paper_shows_a_list_that_costs_more(self):
        # Papers of other counts, prices and shut ways: taken just where they are right by every sentence.
        told = []
        for seed in range(200):
            dice = random.Random(seed)
            for (works, number, box, counts, prices, shut), needed in some_asked(seed):
                work = works[number]
                other = (works, number, box, some_counts(dice, work), prices, some_shut(dice, work))
                if cheapest(*other) is None:
                    continue
                flows = flow_paper(*other)
                asked = (works, number, box, counts, prices, shut)
                for inside in (cheapest(*other), widest(*other), needed, list(range(len(work)))):
                    told.append(self.hold_as_reckoned(asked, needed, inside, flows))
        self.assertGreater(told.count(True), 10)
        self.assertGreater(told.count(False), 100)

    def test_works_of_16_blocks(self):
        shown = 0
        for seed in range(40):
            dice = random.Random(seed)
            work = big_work(dice, share=0.1)
            asked = ([work], 0, 0, some_counts(dice, work), some_prices(dice), dice.sample(ways_of(work), 2))
            inside = cheapest(*asked)
            if inside is None:
                continue
            shown += 1
            flows = flow_paper(*asked)
            self.hold(asked, inside, flows, True)
            self.hold(asked, widest(*asked), flows, True)
            needed = busy([work], 0, 0)
            for at in range(len(flows)):
                self.hold_as_reckoned(asked, needed, inside, flows[:at] + [flows[at] - 1] + flows[at + 1:])
            for at in range(16):
                self.hold_as_reckoned(asked, needed, sorted({at} ^ set(inside)), flows)
        self.assertGreater(shown, 20)


class ShowsNone(unittest.TestCase):
    def hold(self, asked, thing, expected):
        kept = copy.deepcopy((asked, thing))
        self.assertIs(shows_none(*asked, thing), expected, (asked, thing))
        self.assertEqual(repr((asked, thing)), repr(kept))

    def hold_as_reckoned(self, asked, needed, thing):
        works, number, box, shut = asked
        expected = is_numbers(thing) and is_row(works[number], needed, shut, thing)
        self.hold(asked, thing, expected)
        return expected

    def test_one_block(self):
        for shut, expected in (([], False), ([(-1, 0)], True), ([(0, 1)], True), ([(-1, 0), (0, 1)], True)):
            self.hold(([ONE], 0, 4, shut), [0], expected)
            for thing in ([], [1], [-1], [0, 0], [0, 1], [-1, 0]):
                self.hold(([ONE], 0, 4, shut), thing, False)

    def test_rows(self):
        asked = ([ROUND], 0, 0, ways_of(ROUND))
        # Not by the fewest.
        for row in ([2, 1, 0], [2, 3, 4], [2, 1, 3, 4], [2, 3, 1, 0]):
            self.hold(asked, row, True)
        for row in (
            [], [2], [2, 1], [2, 3], [0], [1, 0], [0, 1, 2], [4, 3, 2], [2, 0], [2, 4], [3, 4], [2, 1, 0, 1], [2, 2, 1, 0],
            [2, 1, 2, 1, 0], [2, 3, 1, 3, 4], [-1, 0, 1, 2], [2, 1, 0, -1], [2, 3, 4, 5], [2, 1, 0, 4],
        ):
            self.hold(asked, row, False)

    def test_the_shut_ways_that_a_row_needs(self):
        needed = {(1, 2), (0, 1), (-1, 0)}
        for many in range(8):
            for shut in itertools.combinations(ways_of(ROUND), many):
                self.hold(([ROUND], 0, 0, list(shut)), [2, 1, 0], needed <= set(shut))
                self.hold(([ROUND], 0, 0, list(shut)[::-1]), [2, 3, 4], {(2, 3), (3, 4), (4, 5)} <= set(shut))

    def test_a_block_whose_number_is_that_of_no_way(self):
        # The door comes from -1, and ways out lead to 5: neither is a block.
        asked = ([ROUND], 0, 0, ways_of(ROUND))
        for thing in ([-1], [5], [2, 3, 4, 5], [2, 1, 0, -1], [5, 4, 3, 2], [-1, 0]):
            self.hold(asked, thing, False)

    def test_of_that_work_and_that_box(self):
        both = [([("set", 0, 1)], ("go", 1)), ([("set", 1, 1)], OUT)]
        works = [ONE, both, ROUND]
        self.hold((works, 1, 0, [(-1, 0)]), [0], True)
        self.hold((works, 1, 1, [(-1, 0)]), [0], False)
        self.hold((works, 1, 1, [(-1, 0), (0, 1)]), [1, 0], True)
        self.hold((works, 1, 0, [(1, 2), (0, 1)]), [0, 1], True)
        self.hold((works, 2, 0, [(1, 2), (0, 1)]), [0, 1], False)

    def test_something_else_in_its_place(self):
        for odd in ODD:
            self.hold(([ROUND], 0, 0, ways_of(ROUND)), odd, False)
        right = []
        for thing in bent([2, 3, 1, 0]):
            if self.hold_as_reckoned(([ROUND], 0, 0, ways_of(ROUND)), [2], thing):
                right.append(thing)
        self.assertEqual(right, [[2, 1, 0]])

    def test_something_else_at_each_place(self):
        told = []
        for row in ([2, 1, 0], [2, 3, 1, 0]):
            for at in range(len(row)):
                for odd in list(ODD) + list(bent(row[at])):
                    thing = list(row)
                    thing[at] = odd
                    told.append(self.hold_as_reckoned(([ROUND], 0, 0, ways_of(ROUND)), [2], thing))
        self.assertGreater(told.count(True), 3)
        self.assertGreater(told.count(False), 300)

    def test_true_and_false_are_no_numbers(self):
        self.hold(([ONE], 0, 4, [(-1, 0)]), [False], False)
        self.hold(([ROUND], 0, 0, ways_of(ROUND)), [2, True, 0], False)
        self.hold(([ROUND], 0, 0, ways_of(ROUND)), [2, 1, False], False)

    def test_things_ten_deep(self):
        deep = 0
        for _ in range(9):
            deep = [deep]
        for thing in (deep, [deep], (deep,), {0: deep}, [0, deep]):
            self.hold(([ONE], 0, 4, [(-1, 0)]), thing, False)

    def test_all_rows_of_all_shapes_of_three_blocks(self):
        dice = random.Random(9)
        told = []
        for work in shapes(3):
            asked = ([written_at(work, 2, 5)], 0, 5, [way for way in plain_ways(work) if dice.random() < 0.7])
            for many in range(4):
                for row in itertools.product(range(-1, 4), repeat=many):
                    told.append(self.hold_as_reckoned(asked, [2], list(row)))
        self.assertGreater(told.count(True), 50)

    def test_drawn_works(self):
        told = []
        for seed in range(300):
            dice = random.Random(seed)
            for (works, number, box, counts, prices, shut), needed in some_asked(seed, 6):
                asked = (works, number, box, shut)
                row = why_none(*asked)
                if row is not None:
                    self.hold(asked, row, True)
                    for thing in bent(row):
                        self.hold_as_reckoned(asked, needed, thing)
                blocks = list(range(len(works[number])))
                for _ in range(10):
                    thing = dice.sample(blocks, dice.randint(1, len(blocks)))
                    told.append(self.hold_as_reckoned(asked, needed, thing))
        self.assertGreater(told.count(True), 50)
        self.assertGreater(told.count(False), 1000)

    def test_it_is_shown_just_where_there_is_no_list(self):
        for work in shapes(3):
            written = [written_at(work, 1, 5)]
            ways = plain_ways(work)
            for many in range(len(ways) + 1):
                for shut in itertools.combinations(ways, many):
                    rows = [row for length in range(1, 4) for row in itertools.permutations(range(3), length)]
                    shown = any(shows_none(written, 0, 5, list(shut), list(row)) for row in rows)
                    self.assertEqual(shown, cheapest(written, 0, 5, [1] * len(ways), (1, 1), list(shut)) is None)

    def test_a_row_of_16_blocks(self):
        work = [([], ("go", at + 1)) for at in range(15)] + [([("set", 0, 1)], OUT)]
        asked = ([work], 0, 0, ways_of(work)[:-1])
        row = list(range(15, -1, -1))
        self.hold(asked, row, True)
        for at in range(16):
            self.hold(asked, row[:at] + row[at + 1:], False)


if __name__ == "__main__":
    unittest.main()
