"""asks, reached, awaited and busy."""

import unittest

from fewsaves.lives import asks, awaited, busy, reached
from samples import OUT, plain_asks, plain_awaited, plain_busy, plain_reached, some_works


def one(*deeds):
    """A work of one block."""
    return [(list(deeds), OUT)]


class Asks(unittest.TestCase):
    def hold(self, works, expected):
        self.assertEqual(asks(works), expected)
        self.assertEqual(plain_asks(works), expected)

    def test_no_reads(self):
        self.hold([one()], [[]])
        self.hold([one(("set", 0, 1), ("set", 3, 2))], [[]])

    def test_tell_and_add_read(self):
        self.hold([one(("tell", 4))], [[4]])
        self.hold([one(("add", 3, 1))], [[1, 3]])
        self.hold([one(("add", 5, 5))], [[5]])

    def test_told_rising_and_once(self):
        self.hold([one(("tell", 7), ("tell", 0), ("add", 3, 7), ("tell", 0))], [[0, 3, 7]])
        self.hold([one(*[("tell", box) for box in range(7, -1, -1)])], [list(range(8))])

    def test_a_write_ahead_of_the_read(self):
        self.hold([one(("set", 2, 0), ("tell", 2))], [[]])
        self.hold([one(("tell", 2), ("set", 2, 0))], [[2]])
        self.hold([one(("set", 2, 0), ("add", 2, 1), ("tell", 2))], [[1]])
        self.hold([one(("set", 1, 0), ("add", 2, 1))], [[2]])
        self.hold([one(("add", 2, 1), ("tell", 2), ("tell", 1))], [[1, 2]])

    def test_a_write_of_another_box_keeps_nothing_off(self):
        self.hold([one(("set", 1, 0), ("tell", 2))], [[2]])

    def test_a_write_on_one_of_two_ways(self):
        work = [([], ("fork", 1, 2)), ([("set", 0, 1)], ("go", 3)), ([], ("go", 3)), ([("tell", 0)], OUT)]
        self.hold([work], [[0]])
        work[2] = ([("set", 0, 2)], ("go", 3))
        self.hold([work], [[]])

    def test_a_read_behind_a_round(self):
        self.hold([[([], ("go", 1)), ([("set", 0, 1)], ("fork", 1, 2)), ([("tell", 0)], OUT)]], [[]])
        self.hold([[([], ("go", 1)), ([("tell", 0), ("set", 0, 1)], ("fork", 1, 2)), ([], OUT)]], [[0]])

    def test_calls_in_a_chain(self):
        works = [one(("call", 1)), one(("call", 2)), one(("call", 3)), one(("tell", 6))]
        self.hold(works, [[6], [6], [6], [6]])
        self.hold(works[:1] + [one(("set", 6, 0), ("call", 2))] + works[2:], [[], [], [6], [6]])
        self.hold(works[:1] + [one(("call", 2), ("set", 6, 0))] + works[2:], [[6], [6], [6], [6]])

    def test_a_chain_that_goes_up(self):
        many = 24
        works = [one(("tell", 0))] + [one(("call", at)) for at in range(many - 1)]
        self.hold(works, [[0]] * many)

    def test_a_called_works_write_is_no_write_of_the_caller(self):
        self.hold([one(("call", 1), ("tell", 0)), one(("set", 0, 5))], [[0], []])

    def test_a_ring_that_reads_nothing_asks_nothing(self):
        self.hold([one(("call", 1)), one(("call", 2)), one(("call", 0))], [[], [], []])
        self.hold([one(("call", 0))], [[]])

    def test_a_ring_with_a_read(self):
        self.hold([one(("call", 1)), one(("call", 2)), one(("call", 0), ("tell", 3))], [[3], [3], [3]])
        self.hold([one(("call", 1)), one(("set", 3, 0), ("call", 0)), one(("tell", 3))], [[], [], [3]])

    def test_works_that_call_themselves(self):
        self.hold([one(("call", 0), ("tell", 1))], [[1]])
        self.hold([one(("set", 1, 0), ("call", 0), ("tell", 1))], [[]])
        self.hold([[([], ("fork", 1, 2)), ([("set", 2, 0), ("call", 0)], OUT), ([("tell", 2)], OUT)]], [[2]])

    def test_against_a_plain_reckoning(self):
        for seed in range(400):
            works = some_works(seed)
            self.assertEqual(asks(works), plain_asks(works), works)


# Box 0 is set in block 1, read in block 3; block 2 goes round to 1, block 4 lies behind the read.
STEPS = [
    ([], ("go", 1)),
    ([("set", 0, 5)], ("go", 2)),
    ([], ("fork", 1, 3)),
    ([("tell", 0)], ("go", 4)),
    ([], OUT),
]


class Reached(unittest.TestCase):
    def hold(self, work, box, expected):
        self.assertEqual(reached([work], 0, box), expected)
        self.assertEqual(plain_reached(work, box), expected)

    def test_behind_the_writing_block_alone(self):
        self.hold([([("set", 0, 1)], ("go", 1)), ([], ("go", 2)), ([], OUT)], 0, [1, 2])
        self.hold([([], ("go", 1)), ([("set", 0, 1)], ("go", 2)), ([], OUT)], 0, [2])
        self.hold([([], ("go", 1)), ([], ("go", 2)), ([("set", 0, 1)], OUT)], 0, [])

    def test_add_writes_its_first_box_alone(self):
        work = [([("add", 3, 4)], ("go", 1)), ([], OUT)]
        self.hold(work, 3, [1])
        self.hold(work, 4, [])

    def test_the_writing_block_itself_in_a_round(self):
        self.hold(STEPS, 0, [1, 2, 3, 4])
        self.hold([([], ("go", 1)), ([("set", 0, 1)], ("fork", 1, 2)), ([], OUT)], 0, [1, 2])

    def test_a_write_behind_a_write_keeps_nothing_off(self):
        self.hold([([("set", 0, 1)], ("go", 1)), ([("set", 0, 2)], ("go", 2)), ([], OUT)], 0, [1, 2])

    def test_of_one_of_two_ways(self):
        work = [([], ("fork", 1, 2)), ([("set", 5, 1)], ("go", 3)), ([], ("go", 3)), ([], OUT)]
        self.hold(work, 5, [3])

    def test_told_rising(self):
        work = [([("set", 0, 1)], ("go", 3)), ([], OUT), ([], ("go", 1)), ([], ("go", 2))]
        self.hold(work, 0, [1, 2, 3])

    def test_a_box_that_is_not_written(self):
        for box in range(1, 8):
            self.hold(STEPS, box, [])

    def test_a_called_works_write_is_none_of_this_work(self):
        works = [[([("call", 1)], ("go", 1)), ([], OUT)], [([("set", 0, 1)], ("go", 1)), ([], OUT)]]
        self.assertEqual(reached(works, 0, 0), [])
        self.assertEqual(reached(works, 1, 0), [1])


class Awaited(unittest.TestCase):
    def hold(self, works, number, box, expected):
        self.assertEqual(awaited(works, number, box), expected)
        self.assertEqual(plain_awaited(works, number, box, plain_asks(works)), expected)

    def test_reads_and_writes_in_the_same_block(self):
        self.hold([one(("tell", 0))], 0, 0, [0])
        self.hold([one(("set", 0, 1), ("tell", 0))], 0, 0, [])
        self.hold([one(("tell", 0), ("set", 0, 1))], 0, 0, [0])
        self.hold([one(("add", 0, 1))], 0, 0, [0])
        self.hold([one(("add", 0, 1))], 0, 1, [0])
        self.hold([one(("set", 0, 1), ("add", 0, 1))], 0, 0, [])
        self.hold([one(("set", 0, 1), ("add", 0, 1))], 0, 1, [0])
        self.hold([one(("add", 0, 0))], 0, 0, [0])

    def test_a_write_in_a_block_between(self):
        self.hold([STEPS], 0, 0, [2, 3])
        self.hold([[([], ("go", 1)), ([], ("go", 2)), ([("tell", 0)], ("go", 3)), ([], OUT)]], 0, 0, [0, 1, 2])

    def test_round_about(self):
        work = [([], ("go", 1)), ([("set", 0, 1)], ("go", 2)), ([("tell", 0)], ("fork", 2, 3)), ([], OUT)]
        self.hold([work], 0, 0, [2])
        work[1] = ([("tell", 0), ("set", 0, 1)], ("go", 2))
        self.hold([work], 0, 0, [0, 1, 2])

    def test_a_read_ahead_in_the_same_round(self):
        work = [([], ("go", 1)), ([("tell", 0)], ("go", 2)), ([], ("fork", 1, 3)), ([], OUT)]
        self.hold([work], 0, 0, [0, 1, 2])

    def test_a_write_on_one_of_two_ways(self):
        work = [([], ("fork", 1, 2)), ([("set", 0, 1)], ("go", 3)), ([], ("go", 3)), ([("tell", 0)], OUT)]
        self.hold([work], 0, 0, [0, 2, 3])

    def test_calls_of_works_that_ask(self):
        main = [([], ("go", 1)), ([("call", 1)], ("go", 2)), ([], OUT)]
        self.hold([main, one(("tell", 4))], 0, 4, [0, 1])
        self.hold([main, one(("set", 4, 0), ("tell", 4))], 0, 4, [])
        self.hold([main, one(("call", 2)), one(("tell", 4))], 0, 4, [0, 1])
        self.hold([main, one(("call", 0)), one(("tell", 4))], 0, 4, [])

    def test_calls_and_writes_in_the_same_block(self):
        asker = one(("tell", 4))
        self.hold([one(("set", 4, 0), ("call", 1)), asker], 0, 4, [])
        self.hold([one(("call", 1), ("set", 4, 0)), asker], 0, 4, [0])
        self.hold([one(("set", 3, 0), ("call", 1)), asker], 0, 4, [0])

    def test_a_called_work_that_reads_only_behind_its_own_begin(self):
        called = [([], ("fork", 1, 2)), ([("set", 4, 1)], ("go", 2)), ([("tell", 4)], OUT)]
        self.hold([one(("call", 1)), called], 0, 4, [0])
        self.hold([one(("call", 1)), called], 1, 4, [0, 2])

    def test_a_call_of_a_work_that_reads_after_its_own_write_alone(self):
        called = [([("set", 4, 1)], ("go", 1)), ([("tell", 4)], OUT)]
        self.hold([one(("call", 1)), called], 0, 4, [])
        self.hold([one(("call", 1)), called], 1, 4, [1])

    def test_a_called_works_write_keeps_nothing_off(self):
        self.hold([one(("call", 1), ("tell", 0)), one(("set", 0, 5))], 0, 0, [0])

    def test_a_box_that_is_not_written(self):
        self.hold([[([], ("go", 1)), ([("tell", 6)], OUT)]], 0, 6, [0, 1])

    def test_a_box_that_is_not_read(self):
        for box in range(1, 8):
            self.hold([STEPS], 0, box, [])


class Busy(unittest.TestCase):
    def hold(self, works, number, box, expected):
        self.assertEqual(busy(works, number, box), expected)
        self.assertEqual(plain_busy(works, number, box, plain_asks(works)), expected)

    def test_between_write_and_read(self):
        self.hold([STEPS], 0, 0, [1, 2, 3])

    def test_written_and_never_read(self):
        self.hold([[([], ("go", 1)), ([("set", 0, 1)], ("go", 2)), ([], OUT)]], 0, 0, [1])

    def test_awaited_but_not_reached(self):
        self.hold([[([("tell", 0)], ("go", 1)), ([("set", 0, 1)], OUT)]], 0, 0, [1])

    def test_reached_but_not_awaited(self):
        self.hold([[([("set", 0, 1), ("tell", 0)], ("go", 1)), ([], ("go", 2)), ([("set", 0, 2)], OUT)]], 0, 0, [0, 2])

    def test_a_round_with_the_read_ahead_of_the_write(self):
        work = [([], ("go", 1)), ([("tell", 0)], ("go", 2)), ([("set", 0, 1)], ("go", 3)), ([], ("fork", 1, 4)), ([], OUT)]
        self.hold([work], 0, 0, [1, 2, 3])

    def test_told_rising(self):
        work = [([], ("go", 3)), ([("tell", 0)], OUT), ([], ("go", 1)), ([("set", 0, 1)], ("go", 2))]
        self.hold([work], 0, 0, [1, 2, 3])

    def test_a_box_that_the_work_does_not_write(self):
        self.hold([one(("tell", 0), ("add", 1, 0))], 0, 0, [])
        self.hold([one(("call", 1), ("tell", 0)), one(("set", 0, 1))], 0, 0, [])
        self.hold([one(("call", 1), ("tell", 0)), one(("set", 0, 1))], 1, 0, [0])

    def test_calls_of_works_that_ask(self):
        main = [([("set", 2, 1)], ("go", 1)), ([], ("go", 2)), ([("call", 1)], ("go", 3)), ([], OUT)]
        self.hold([main, one(("tell", 2))], 0, 2, [0, 1, 2])
        self.hold([main, one(("tell", 3))], 0, 2, [0])
        self.hold([main, one(("call", 2)), one(("add", 0, 2))], 0, 2, [0, 1, 2])
        self.hold([main, one(("call", 1))], 0, 2, [0])

    def test_a_work_that_calls_itself(self):
        work = [([("tell", 0)], ("fork", 1, 3)), ([("set", 0, 1)], ("go", 2)), ([("call", 0)], ("go", 3)), ([], OUT)]
        self.hold([work], 0, 0, [1, 2])

    def test_of_a_work_by_its_number(self):
        quiet = one(("set", 1, 1))
        self.hold([quiet, STEPS], 1, 0, [1, 2, 3])
        self.hold([quiet, STEPS], 0, 0, [])
        self.hold([quiet, STEPS], 0, 1, [0])

    def test_the_last_box(self):
        self.hold([[([("set", 7, 1)], ("go", 1)), ([], ("go", 2)), ([("tell", 7)], OUT)]], 0, 7, [0, 1, 2])


class AllOfThem(unittest.TestCase):
    def test_against_plain_reckonings(self):
        between = 0
        for seed in range(400):
            works = some_works(seed)
            asked = plain_asks(works)
            for number in range(len(works)):
                for box in (0, 1, 2, 7):
                    told = (reached(works, number, box), awaited(works, number, box), busy(works, number, box))
                    self.assertEqual([type(blocks) for blocks in told], [list] * 3)
                    expected = (
                        plain_reached(works[number], box),
                        plain_awaited(works, number, box, asked),
                        plain_busy(works, number, box, asked),
                    )
                    self.assertEqual(told, expected, (works, number, box))
                    between += len(told[2])
        self.assertGreater(between, 400)

    def test_sparse_works_against_plain_reckonings(self):
        for seed in range(1000, 1400):
            works = some_works(seed, most_deeds=1)
            asked = plain_asks(works)
            self.assertEqual(asks(works), asked, works)
            for number in range(len(works)):
                for box in (0, 1, 7):
                    self.assertEqual(awaited(works, number, box), plain_awaited(works, number, box, asked), works)
                    self.assertEqual(busy(works, number, box), plain_busy(works, number, box, asked), works)

    def test_kinds_of_what_asks_tells(self):
        told = asks([one(("tell", 0)), one()])
        self.assertIs(type(told), list)
        self.assertEqual([type(boxes) for boxes in told], [list, list])

    def test_works_of_the_bounds_and_beyond(self):
        line = [([("call", at % 24)] * 24, ("go", at + 1)) for at in range(15)] + [([("tell", 3)] * 24, OUT)]
        works = [list(line) for _ in range(24)]
        self.assertEqual(asks(works), [[3]] * 24)
        self.assertEqual(awaited(works, 23, 3), list(range(16)))
        many = 3000
        long = [([("set", 0, 1)], ("go", 1))] + [([], ("go", at + 1)) for at in range(1, many)] + [([("tell", 0)], OUT)]
        self.assertEqual(busy([long], 0, 0), list(range(many + 1)))
        chain = [one(("call", at + 1)) for at in range(many)] + [one(("tell", 5))]
        self.assertEqual(asks(chain), [[5]] * (many + 1))


if __name__ == "__main__":
    unittest.main()
