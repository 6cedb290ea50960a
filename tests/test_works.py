"""is_plain, ways_of, boxes_in and rounds_in."""

import random
import unittest

from fewsaves.works import boxes_in, is_plain, rounds_in, ways_of
from samples import ALL_WORDS, OUT, plain_rounds, plain_ways, plain_writers, shapes, some_work

LINE = [([], ("go", 1)), ([], ("go", 2)), ([], OUT)]
DIAMOND = [([], ("fork", 2, 1)), ([], ("go", 3)), ([], ("go", 3)), ([], OUT)]
# A round (1, 2, 3), within it the round (2, 3), and block 3 with a way to itself.
NESTED = [
    ([], ("go", 1)), ([], ("go", 2)), ([], ("fork", 3, 5)), ([], ("fork", 3, 4)), ([], ("fork", 2, 1)), ([], OUT),
]


def some_samples(words=ALL_WORDS):
    dice = random.Random(5)
    return [some_work(dice, 3, boxes=range(8), words=words) for _ in range(300)]


class IsPlain(unittest.TestCase):
    def test_works_without_save_and_back(self):
        self.assertIs(is_plain([([], OUT)]), True)
        self.assertIs(is_plain(DIAMOND), True)
        self.assertIs(is_plain([([("set", 0, 1), ("add", 0, 1), ("tell", 0), ("call", 0)], OUT)]), True)

    def test_a_save_or_a_back_at_any_place_of_any_block(self):
        for word in ("save", "back"):
            for box in range(8):
                for block in range(4):
                    for at in range(3):
                        work = [([("set", 0, 1), ("tell", 0)], end) for deeds, end in DIAMOND]
                        self.assertIs(is_plain(work), True)
                        work[block][0].insert(at, (word, box))
                        self.assertIs(is_plain(work), False)

    def test_both_of_them(self):
        self.assertIs(is_plain([([("save", 0)], ("go", 1)), ([("back", 0)], OUT)]), False)

    def test_against_how_they_are_written(self):
        told = set()
        for work in some_samples():
            expected = "save" not in repr(work) and "back" not in repr(work)
            self.assertIs(is_plain(work), expected, work)
            told.add(expected)
        self.assertEqual(told, {True, False})


class WaysOf(unittest.TestCase):
    def test_the_door_and_a_way_out(self):
        self.assertEqual(ways_of([([], OUT)]), [(-1, 0), (0, 1)])

    def test_go(self):
        self.assertEqual(ways_of(LINE), [(-1, 0), (0, 1), (1, 2), (2, 3)])

    def test_fork_is_told_rising(self):
        self.assertEqual(ways_of(DIAMOND), [(-1, 0), (0, 1), (0, 2), (1, 3), (2, 3), (3, 4)])

    def test_several_ways_out(self):
        work = [([], ("fork", 1, 2)), ([], OUT), ([], OUT)]
        self.assertEqual(ways_of(work), [(-1, 0), (0, 1), (0, 2), (1, 3), (2, 3)])

    def test_no_way_out(self):
        self.assertEqual(ways_of([([], ("go", 1)), ([], ("go", 1))]), [(-1, 0), (0, 1), (1, 1)])

    def test_deeds_and_saves_make_no_ways(self):
        work = [([("call", 5), ("save", 1), ("back", 1)], ("go", 1)), ([("set", 3, 2)], OUT)]
        self.assertEqual(ways_of(work), [(-1, 0), (0, 1), (1, 2)])

    def test_blocks_of_two_figures_rise_as_numbers(self):
        work = [([], ("go", at + 1)) for at in range(9)] + [([], ("fork", 11, 9))] + [([], OUT)] * 2
        work[8] = ([], ("fork", 10, 9))
        self.assertEqual(
            ways_of(work),
            [(-1, 0)] + [(at, at + 1) for at in range(8)] + [(8, 9), (8, 10), (9, 9), (9, 11), (10, 12), (11, 12)],
        )

    def test_all_shapes_of_up_to_three_blocks_and_some_works(self):
        for work in [shape for many in (1, 2, 3) for shape in shapes(many)] + some_samples():
            told = ways_of(work)
            self.assertEqual(told, plain_ways(work))
            self.assertIs(type(told), list)
            self.assertEqual({type(way) for way in told}, {tuple})


class BoxesIn(unittest.TestCase):
    def test_none(self):
        self.assertEqual(boxes_in([([], OUT)]), [])

    def test_set_and_add_write_and_nothing_else(self):
        self.assertEqual(boxes_in([([("set", 3, 5)], OUT)]), [3])
        self.assertEqual(boxes_in([([("add", 4, 2)], OUT)]), [4])
        self.assertEqual(boxes_in([([("add", 6, 6)], OUT)]), [6])
        self.assertEqual(boxes_in([([("tell", 1), ("call", 2), ("save", 3), ("back", 4)], OUT)]), [])

    def test_each_box_once_and_rising(self):
        work = [
            ([("set", 7, 1), ("add", 7, 0), ("set", 2, 9)], ("fork", 1, 2)),
            ([("add", 0, 5)], ("go", 2)),
            ([("set", 2, 1), ("set", 1, 3)], OUT),
        ]
        self.assertEqual(boxes_in(work), [0, 1, 2, 7])

    def test_all_boxes(self):
        self.assertEqual(boxes_in([([("set", box, 0) for box in range(7, -1, -1)], OUT)]), list(range(8)))

    def test_against_a_plain_reckoning(self):
        for work in some_samples():
            told = boxes_in(work)
            self.assertIs(type(told), list)
            self.assertEqual(told, [box for box in range(8) if plain_writers(work, box)], work)


class RoundsIn(unittest.TestCase):
    def test_none(self):
        for work in ([([], OUT)], LINE, DIAMOND):
            self.assertEqual(rounds_in(work), [])

    def test_a_way_from_a_block_to_itself(self):
        self.assertEqual(rounds_in([([], ("go", 1)), ([], ("fork", 1, 2)), ([], OUT)]), [(1, 1)])
        self.assertEqual(rounds_in([([], ("go", 1)), ([], ("go", 1))]), [(1, 1)])

    def test_a_round_of_two_and_ways_into_it_and_out_of_it(self):
        work = [([], ("go", 1)), ([], ("go", 2)), ([], ("fork", 3, 1)), ([], OUT)]
        self.assertEqual(rounds_in(work), [(1, 2), (2, 1)])

    def test_rounds_within_rounds(self):
        self.assertEqual(rounds_in(NESTED), [(1, 2), (2, 3), (3, 3), (3, 4), (4, 1), (4, 2)])

    def test_two_rounds_and_a_way_between_them(self):
        work = [([], ("go", 1)), ([], ("fork", 1, 2)), ([], ("go", 3)), ([], ("fork", 2, 4)), ([], OUT)]
        self.assertEqual(rounds_in(work), [(1, 1), (2, 3), (3, 2)])

    def test_all_shapes_of_up_to_four_blocks(self):
        for many in (1, 2, 3, 4):
            for work in shapes(many):
                self.assertEqual(rounds_in(work), plain_rounds(work), work)

    def test_some_works(self):
        found = 0
        for work in some_samples():
            told = rounds_in(work)
            self.assertEqual(told, plain_rounds(work), work)
            self.assertIs(type(told), list)
            self.assertLessEqual({type(way) for way in told}, {tuple})
            found += len(told)
        self.assertGreater(found, 0)

    def test_a_long_round(self):
        many = 300
        work = [([], ("go", at + 1)) for at in range(many - 1)] + [([], ("go", 1))]
        self.assertEqual(rounds_in(work), [(at, at + 1) for at in range(1, many - 1)] + [(many - 1, 1)])


if __name__ == "__main__":
    unittest.main()
