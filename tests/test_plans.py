"""plain_plan, tight_plan, put_on, cost, home_of and splits."""

import random
import unittest

from fewsaves.plans import cost, home_of, is_plan, plain_plan, put_on, splits, tight_plan
from fewsaves.works import boxes_in, ways_of
from samples import (
    OUT, plain_asks, plain_busy, plain_home, plain_put, plain_ways, plain_writers, shapes, some_ending_works, some_plan,
    some_works,
)

# Box 3 is set in block 1 and told in block 2, box 5 is set in block 2 alone; block 0 may go round both of them.
SIDE = [
    ([], ("fork", 1, 3)),
    ([("set", 3, 1)], ("go", 2)),
    ([("set", 5, 2), ("tell", 3), ("tell", 5)], ("go", 3)),
    ([], OUT),
]

# Block 1 leads to itself, or on to block 2.
ROUND = [([], ("go", 1)), ([("set", 0, 1)], ("fork", 1, 2)), ([], OUT)]


def some_pairs(seeds):
    """Works by chance, the number of one of them, and a plan of it by chance."""
    for seed in range(seeds):
        dice = random.Random(seed)
        for works in (some_works(seed), some_ending_works(seed)):
            number = dice.randrange(len(works))
            yield dice, works, number, some_plan(dice, works, number)


class PlainPlan(unittest.TestCase):
    def hold(self, work, expected):
        self.assertEqual(repr(plain_plan(work)), repr(expected))

    def test_answers(self):
        self.hold([([], OUT)], {})
        self.hold([([("tell", 0), ("call", 0)], OUT)], {})
        self.hold([([("set", 4, 0)], OUT)], {4: [0]})
        self.hold(SIDE, {3: [0, 1, 2, 3], 5: [0, 1, 2, 3]})
        self.hold(ROUND, {0: [0, 1, 2]})

    def test_sixteen_blocks_and_all_boxes(self):
        work = [([("add", box, box) for box in range(8)], ("go", at + 1)) for at in range(15)] + [([], OUT)]
        self.assertEqual(plain_plan(work), {box: list(range(16)) for box in range(8)})

    def test_its_lists_are_not_one_and_the_same(self):
        plan = plain_plan(SIDE)
        plan[3].append(9)
        self.assertEqual(plan[5], [0, 1, 2, 3])

    def test_it_is_a_plan(self):
        for dice, works, number, plan in some_pairs(150):
            told = plain_plan(works[number])
            self.assertIs(is_plan(works, number, told), True)
            self.assertEqual(set(told), set(plan))


class TightPlan(unittest.TestCase):
    def hold(self, works, number, expected):
        self.assertEqual(repr(tight_plan(works, number)), repr(expected))

    def test_answers(self):
        self.hold([[([], OUT)]], 0, {})
        self.hold([SIDE], 0, {3: [1, 2], 5: [2]})
        self.hold([ROUND], 0, {0: [1]})

    def test_of_that_work(self):
        self.hold([SIDE, ROUND], 0, {3: [1, 2], 5: [2]})
        self.hold([SIDE, ROUND], 1, {0: [1]})

    def test_calls_of_works_that_ask(self):
        caller = [([("set", 2, 1)], ("go", 1)), ([], ("go", 2)), ([("call", 1)], ("go", 3)), ([], OUT)]
        self.hold([caller, [([("tell", 2)], OUT)]], 0, {2: [0, 1, 2]})
        self.hold([caller, [([("tell", 3)], OUT)]], 0, {2: [0]})

    def test_its_lists_are_not_one_and_the_same(self):
        plan = tight_plan([[([("set", 0, 1), ("set", 1, 1)], OUT)]], 0)
        plan[0].append(9)
        self.assertEqual(plan[1], [0])

    def test_against_a_plain_reckoning(self):
        for seed in range(200):
            works = some_works(seed)
            asked = plain_asks(works)
            for number, work in enumerate(works):
                boxes = [box for box in range(8) if plain_writers(work, box)]
                expected = {box: plain_busy(works, number, box, asked) for box in boxes}
                self.hold(works, number, expected)
                self.assertIs(is_plan(works, number, expected), True)


class PutOn(unittest.TestCase):
    def hold(self, work, plan, expected):
        self.assertEqual(repr(put_on(work, plan)), repr(expected))

    def test_nothing(self):
        self.hold([([], OUT)], {}, [])
        self.hold(SIDE, {}, [])

    def test_one_block(self):
        self.hold([([("set", 4, 0)], OUT)], {4: [0]}, [((-1, 0), "save", 4), ((0, 1), "back", 4)])

    def test_at_the_door_and_at_each_way_out(self):
        work = [([("set", 1, 0)], ("fork", 1, 2)), ([], OUT), ([], OUT)]
        self.hold(work, {1: [0, 1, 2]}, [((-1, 0), "save", 1), ((1, 3), "back", 1), ((2, 3), "back", 1)])

    def test_between_blocks(self):
        self.hold(SIDE, {3: [1, 2], 5: [2]}, [
            ((0, 1), "save", 3), ((1, 2), "save", 5), ((2, 3), "back", 3), ((2, 3), "back", 5),
        ])
        self.hold(SIDE, {3: [1, 2, 3], 5: [0, 2]}, [
            ((-1, 0), "save", 5), ((0, 1), "back", 5), ((0, 1), "save", 3), ((0, 3), "back", 5), ((0, 3), "save", 3),
            ((1, 2), "save", 5), ((2, 3), "back", 5), ((3, 4), "back", 3),
        ])

    def test_none_on_a_way_from_a_block_to_itself(self):
        self.hold(ROUND, {0: [1]}, [((0, 1), "save", 0), ((1, 2), "back", 0)])

    def test_both_ways_about_between_two_blocks(self):
        work = [([], ("go", 1)), ([("set", 0, 1)], ("fork", 2, 3)), ([], ("go", 1)), ([], OUT)]
        self.hold(work, {0: [1]}, [
            ((0, 1), "save", 0), ((1, 2), "back", 0), ((1, 3), "back", 0), ((2, 1), "save", 0),
        ])

    def test_rising_by_ways_then_words_then_boxes(self):
        # At (0, 1) box 1 is brought back, boxes 0 and 2 are saved.
        work = [([("set", 1, 0)], ("go", 1)), ([("set", 2, 0), ("set", 0, 0)], OUT)]
        for plan in ({0: [1], 1: [0], 2: [1]}, {2: [1], 1: [0], 0: [1]}):
            self.hold(work, plan, [
                ((-1, 0), "save", 1), ((0, 1), "back", 1), ((0, 1), "save", 0), ((0, 1), "save", 2),
                ((1, 2), "back", 0), ((1, 2), "back", 2),
            ])

    def test_against_a_plain_reckoning(self):
        for dice, works, number, plan in some_pairs(300):
            self.hold(works[number], plan, plain_put(works[number], plan))


class Cost(unittest.TestCase):
    def hold(self, work, plan, counts, prices, expected):
        told = cost(work, plan, counts, prices)
        self.assertEqual(told, expected)
        self.assertIs(type(told), int)

    def test_nothing_put(self):
        self.hold([([], OUT)], {}, [5, 5], (3, 4), 0)

    def test_saves_and_backs_have_prices_of_their_own(self):
        work = [([("set", 4, 0)], OUT)]
        self.hold(work, {4: [0]}, [1, 1], (3, 4), 7)
        self.hold(work, {4: [0]}, [10, 1], (3, 4), 34)
        self.hold(work, {4: [0]}, [1, 10], (3, 4), 43)
        self.hold(work, {4: [0]}, [10, 1], (1, 0), 10)
        self.hold(work, {4: [0]}, [10, 1], (0, 1), 1)
        self.hold(work, {4: [0]}, [10, 1], (0, 0), 0)
        self.hold(work, {4: [0]}, [0, 0], (3, 4), 0)

    def test_counts_as_ways_of_has_them(self):
        # The ways: (-1, 0), (0, 1), (0, 3), (1, 2), (2, 3), (3, 4).
        counts = [1, 10, 100, 1000, 10000, 100000]
        self.hold(SIDE, {3: [1, 2], 5: [2]}, counts, (1, 0), 1010)
        self.hold(SIDE, {3: [1, 2], 5: [2]}, counts, (0, 1), 20000)
        self.hold(SIDE, {3: [1, 2], 5: [2]}, counts, (2, 3), 62020)
        self.hold(SIDE, {3: [1, 2, 3], 5: [0, 2]}, counts, (2, 3), 2 * 1111 + 3 * 110110)

    def test_all_boxes_on_one_way_are_paid(self):
        work = [([("set", box, 1) for box in range(8)], OUT)]
        self.hold(work, plain_plan(work), [2, 3], (5, 7), 8 * 2 * 5 + 8 * 3 * 7)

    def test_great_counts_and_prices(self):
        great = 10 ** 12
        self.hold([([("set", 4, 0)], OUT)], {4: [0]}, [great, great], (10 ** 6, 10 ** 6), 2 * 10 ** 18)

    def test_against_a_plain_reckoning(self):
        for dice, works, number, plan in some_pairs(300):
            work = works[number]
            counts = [dice.randint(0, 9) for way in plain_ways(work)]
            prices = (dice.randint(0, 9), dice.randint(0, 9))
            expected = 0
            for way, count in zip(plain_ways(work), counts):
                for other, word, box in plain_put(work, plan):
                    if other == way:
                        expected += count * prices[0] if word == "save" else count * prices[1]
            self.hold(work, plan, counts, prices, expected)


class HomeOf(unittest.TestCase):
    def hold(self, work, expected):
        self.assertEqual([(way, home_of(work, way)) for way in ways_of(work)], expected)

    def test_one_block(self):
        self.hold([([], OUT)], [((-1, 0), "begin"), ((0, 1), "end")])

    def test_a_way_alone_from_its_block_and_to_the_other(self):
        self.hold([([], ("go", 1)), ([], OUT)], [((-1, 0), "begin"), ((0, 1), "end"), ((1, 2), "end")])

    def test_forks_that_lead_to_blocks_of_their_own(self):
        work = [([], ("fork", 2, 1)), ([], ("go", 3)), ([], ("go", 3)), ([], OUT)]
        self.hold(work, [
            ((-1, 0), "begin"), ((0, 1), "begin"), ((0, 2), "begin"), ((1, 3), "end"), ((2, 3), "end"), ((3, 4), "end"),
        ])

    def test_forks_that_lead_to_blocks_that_others_lead_to(self):
        self.hold(SIDE, [
            ((-1, 0), "begin"), ((0, 1), "begin"), ((0, 3), "split"), ((1, 2), "end"), ((2, 3), "end"), ((3, 4), "end"),
        ])
        self.hold(ROUND, [((-1, 0), "begin"), ((0, 1), "end"), ((1, 1), "split"), ((1, 2), "begin"), ((2, 3), "end")])

    def test_two_forks_that_lead_to_the_same_blocks(self):
        work = [([], ("fork", 1, 2)), ([], ("fork", 3, 2)), ([], ("fork", 1, 3)), ([], OUT)]
        self.hold(work, [
            ((-1, 0), "begin"), ((0, 1), "split"), ((0, 2), "split"), ((1, 2), "split"), ((1, 3), "split"),
            ((2, 1), "split"), ((2, 3), "split"), ((3, 4), "end"),
        ])

    def test_on_all_small_shapes(self):
        seen = set()
        for many in range(1, 5):
            for work in shapes(many):
                for way in plain_ways(work):
                    home = home_of(work, way)
                    self.assertEqual(home, plain_home(work, way), (work, way))
                    seen.add(home)
        self.assertEqual(seen, {"begin", "end", "split"})


class Splits(unittest.TestCase):
    def hold(self, work, plan, expected):
        self.assertEqual(repr(splits(work, plan)), repr(expected))

    def test_none(self):
        self.hold([([], OUT)], {}, [])
        self.hold(SIDE, {3: [1, 2], 5: [2]}, [])
        self.hold(SIDE, plain_plan(SIDE), [])

    def test_a_way_with_home_split_is_split_where_something_is_put_on_it(self):
        self.hold(SIDE, {3: [1, 2, 3], 5: [2]}, [(0, 3)])
        self.hold(SIDE, {3: [1, 2], 5: [0, 1, 2]}, [(0, 3)])

    def test_each_once(self):
        self.hold(SIDE, {3: [0, 1, 2], 5: [2, 3]}, [(0, 3)])

    def test_several_rising(self):
        work = [([("set", 0, 1)], ("fork", 2, 1)), ([], ("fork", 3, 2)), ([], ("fork", 3, 1)), ([("set", 0, 1)], OUT)]
        self.hold(work, {0: [0, 3]}, [(0, 1), (0, 2), (1, 3), (2, 3)])
        self.hold(work, {0: [0, 2, 3]}, [(0, 1), (1, 2), (1, 3), (2, 1)])
        self.hold(work, {0: [0, 1, 2, 3]}, [])

    def test_against_a_plain_reckoning(self):
        many = set()
        for dice, works, number, plan in some_pairs(300):
            work = works[number]
            put = {way for way, word, box in plain_put(work, plan)}
            expected = [way for way in plain_ways(work) if way in put and plain_home(work, way) == "split"]
            self.hold(work, plan, expected)
            many.add(len(expected))
        self.assertGreater(len(many), 4)

    def test_boxes_of_the_samples(self):
        # What is told of SIDE and ROUND above is told of plans.
        self.assertEqual((boxes_in(SIDE), boxes_in(ROUND)), ([3, 5], [0]))
        for plan in ({3: [1, 2], 5: [2]}, {3: [1, 2, 3], 5: [0, 2]}, {3: [0, 1, 2], 5: [2, 3]}):
            self.assertIs(is_plan([SIDE], 0, plan), True)


if __name__ == "__main__":
    unittest.main()
