"""is_work and are_works: right works, and something else at each place of a work."""

import random
import re
import unittest

from fewsaves.works import are_works, is_work
from samples import ALL_WORDS, ODD, OUT, all_led_to, bent, ends_among, shapes, some_work, some_works

DEED = (
    r"(?:\('set', [0-7], -?\d+\)|\('add', [0-7], [0-7]\)"
    r"|\('(?:tell|save|back)', [0-7]\)|\('call', \d+\))"
)
END = r"(?:\('out',\)|\('go', \d+\)|\('fork', \d+, \d+\))"
BLOCK = rf"\(\[(?:{DEED}(?:, {DEED})*)?\], {END}\)"
WORK = re.compile(rf"\[{BLOCK}(?:, {BLOCK})*\]")

# Every deed and every end, and ways back and forth.
FULL = [
    ([("set", 0, 5), ("add", 1, 0), ("add", 2, 2), ("tell", 7)], ("fork", 2, 1)),
    ([("call", 0), ("call", 2), ("save", 3), ("back", 3)], ("go", 2)),
    ([], ("fork", 1, 3)),
    ([("set", 7, -(10 ** 12))], OUT),
]


def read_as_work(thing, works):
    """The plain reckoning: by how the thing is written, since that tells True from 1 and a list from a tuple."""
    text = repr(thing)
    if not WORK.fullmatch(text):
        return False
    ends = [tuple(int(n) for n in re.findall(r"\d+", end)) for end in re.findall(END, text)]
    if not all(0 < to < len(ends) for end in ends for to in end):
        return False
    if any(len(end) == 2 and end[0] == end[1] for end in ends):
        return False
    if any(int(call) >= works for call in re.findall(r"'call', (\d+)", text)):
        return False
    return all_led_to([(None,) + end for end in ends])


def places(thing):
    """All places within a thing of lists and tuples, each a list of indexes; the thing's own is empty."""
    yield []
    if isinstance(thing, (list, tuple)):
        for at, part in enumerate(thing):
            for place in places(part):
                yield [at] + place


def at_place(thing, place):
    for at in place:
        thing = thing[at]
    return thing


def with_put(thing, place, new):
    """The thing with something else at that place."""
    if not place:
        return new
    parts = list(thing)
    parts[place[0]] = with_put(parts[place[0]], place[1:], new)
    return tuple(parts) if isinstance(thing, tuple) else parts


class IsWork(unittest.TestCase):
    def hold(self, thing, works, expected):
        kept = repr(thing)
        self.assertIs(is_work(thing, works), expected, (thing, works))
        self.assertEqual(repr(thing), kept)

    def hold_as_read(self, thing, works):
        expected = read_as_work(thing, works)
        self.hold(thing, works, expected)
        return expected

    def test_right_works(self):
        for works in (3, 4, 24, 10 ** 30):
            self.hold(FULL, works, True)
        self.hold([([], OUT)], 0, True)
        self.hold([([], ("go", 1)), ([], OUT)], 0, True)
        self.hold([([], ("go", 1)), ([], ("go", 1))], 0, True)
        self.hold([([], ("fork", 1, 2)), ([], OUT), ([], OUT)], 1, True)
        self.hold([([], ("fork", 2, 1)), ([], ("go", 2)), ([], ("fork", 2, 1))], 1, True)

    def test_each_deed_with_each_box(self):
        for box in range(-2, 11):
            right = 0 <= box <= 7
            for deed in (("set", box, 0), ("add", box, 0), ("add", 7, box), ("tell", box), ("save", box), ("back", box)):
                self.hold([([deed], OUT)], 1, right)
                self.hold([([("tell", 0), deed], OUT)], 1, right)
                self.hold([([], ("go", 1)), ([deed], OUT)], 1, right)

    def test_numbers_set_may_be_any(self):
        for n in (0, -1, 10 ** 12, -(10 ** 12), 10 ** 12 + 1, -(10 ** 12) - 1, 10 ** 5000, -(10 ** 5000)):
            self.assertIs(is_work([([("set", 0, n)], OUT)], 0), True)
        for n in (True, False, None, "0", "", [], [1], (), (1,), {}, {1: 1}):
            self.hold([([("set", 0, n)], OUT)], 1, False)

    def test_numbers_of_any_size_elsewhere(self):
        for n in (10 ** 5000, -(10 ** 5000)):
            for deed in (("set", n, 0), ("add", n, 0), ("add", 0, n), ("tell", n), ("call", n), ("save", n)):
                self.assertIs(is_work([([deed], OUT)], 4), False)
            self.assertIs(is_work([([], ("go", n)), ([], OUT)], 4), False)

    def test_calls_of_works_that_are_there(self):
        for works in (0, 1, 2, 24):
            for call in range(-2, 27):
                self.hold([([("call", call)], OUT)], works, 0 <= call < works)

    def test_true_and_false_are_no_numbers(self):
        for no in (True, False):
            for deed in (
                ("set", no, 0), ("set", 0, no), ("add", no, 0), ("add", 0, no),
                ("tell", no), ("call", no), ("save", no), ("back", no),
            ):
                self.hold([([deed], OUT)], 4, False)
            self.hold([([], ("go", no)), ([], OUT)], 4, False)
            self.hold([([], ("fork", no, 2)), ([], OUT), ([], OUT)], 4, False)
            self.hold([([], ("fork", 2, no)), ([], OUT), ([], OUT)], 4, False)

    def test_ends_name_blocks_there_are_but_not_0(self):
        for to in range(-4, 6):
            self.hold([([], ("go", 1)), ([], ("go", to))], 1, to == 1)
            self.hold([([], ("fork", 1, 2)), ([], OUT), ([], ("go", to))], 1, to in (1, 2))
            for other in range(-4, 6):
                right = to in (1, 2) and other in (1, 2) and to != other
                self.hold([([], ("fork", 1, 2)), ([], OUT), ([], ("fork", to, other))], 1, right)

    def test_a_fork_with_two_like_blocks(self):
        self.hold([([], ("fork", 1, 1)), ([], OUT)], 1, False)
        self.hold([([], ("fork", 1, 2)), ([], ("fork", 2, 2)), ([], OUT)], 1, False)

    def test_a_block_that_no_way_leads_to(self):
        self.hold([([], OUT), ([], OUT)], 1, False)
        self.hold([([], OUT), ([], ("go", 1))], 1, False)
        self.hold([([], ("go", 1)), ([], OUT), ([], ("go", 1))], 1, False)
        self.hold([([], ("go", 1)), ([], OUT), ([], ("go", 3)), ([], ("go", 2))], 1, False)
        self.hold([([], ("go", 3)), ([], OUT), ([], ("go", 1)), ([], ("go", 2))], 1, True)

    def test_things_that_are_no_list(self):
        for thing in ODD:
            self.hold_as_read(thing, 1)
        for thing in (None, True, False, 0, "", "[([], ('out',))]", (), {}, [], (([], OUT),), {0: ([], OUT)}):
            self.hold(thing, 1, False)

    def test_words_that_are_none(self):
        for word in ("", "SET", "put", "set ", "out", "go", "fork", "box", "number", "work", 0, None, True, (), [], {}):
            for deed in ((word,), (word, 0), (word, 0, 0), (word, 0, 0, 0)):
                self.hold([([deed], OUT)], 1, False)
        for word in ("", "OUT", "in", "tell", "set", "add", 0, None, True, (), [], {}):
            for end in ((word,), (word, 1), (word, 1, 2)):
                self.hold([([], ("fork", 1, 2)), ([], OUT), ([], end)], 1, False)

    def test_parts_too_few_and_too_many(self):
        for deed in (
            (), ("set",), ("set", 0), ("set", 0, 0, 0), ("add",), ("add", 0), ("add", 0, 0, 0), ("tell",),
            ("tell", 0, 0), ("call",), ("call", 0, 0), ("save",), ("save", 0, 0), ("back",), ("back", 0, 0),
        ):
            self.hold([([deed], OUT)], 1, False)
        for end in ((), ("out", 1), ("go",), ("go", 1, 2), ("fork",), ("fork", 1), ("fork", 1, 2, 3), ("fork", 1, 2, 1)):
            self.hold([([], ("fork", 1, 2)), ([], ("go", 3)), ([], end), ([], OUT)], 1, False)
        for block in ((), ([],), (OUT,), ([], OUT, []), ([], [], OUT), ([], OUT, OUT)):
            self.hold([block], 1, False)

    def test_lists_and_tuples_are_told_apart(self):
        for block in (
            [[], OUT], ((), OUT), ([], ["out"]), ([["tell", 0]], OUT), ((("tell", 0),), OUT),
            ({}, OUT), ("", OUT), (None, OUT), ([], "out"), (["tell"], OUT), ([], {"out": 0}), (0, OUT),
        ):
            self.hold([block], 1, False)

    def test_something_else_at_each_place(self):
        told = set()
        for place in places(FULL):
            for odd in ODD:
                told.add(self.hold_as_read(with_put(FULL, place, odd), 3))
            for odd in bent(at_place(FULL, place)):
                told.add(self.hold_as_read(with_put(FULL, place, odd), 3))
        self.assertEqual(told, {True, False})

    def test_all_small_shapes(self):
        for many in (1, 2, 3):
            right = 0
            for first in ends_among(many + 1):
                for rest in shapes(many):
                    right += self.hold_as_read([([], first)] + rest[1:], 1)
            self.assertGreater(right, 0)

    def test_works_by_chance_and_what_comes_near_them(self):
        dice = random.Random(17)
        told = set()
        for _ in range(250):
            work = some_work(dice, 3, boxes=range(8), words=ALL_WORDS)
            self.hold(work, 3, True)
            place = dice.choice(list(places(work)))
            for odd in list(bent(at_place(work, place))) + [dice.choice(ODD)]:
                told.add(self.hold_as_read(with_put(work, place, odd), 3))
        self.assertEqual(told, {True, False})

    def test_works_of_any_size(self):
        many = 5000
        chain = [([("tell", at % 8)], ("go", at + 1)) for at in range(many - 1)] + [([], OUT)]
        self.assertIs(is_work(chain, 1), True)
        chain[many // 2] = ([], OUT)
        self.assertIs(is_work(chain, 1), False)
        self.assertIs(is_work([([("tell", 0)] * many, OUT)], 1), True)
        self.assertIs(is_work([([("tell", 0)] * many + [("tell", 8)], OUT)], 1), False)


class AreWorks(unittest.TestCase):
    def hold(self, thing, expected):
        kept = repr(thing)
        self.assertIs(are_works(thing), expected, thing)
        self.assertEqual(repr(thing), kept)

    def hold_as_read(self, thing):
        expected = type(thing) is list and thing != [] and all(read_as_work(work, len(thing)) for work in thing)
        self.hold(thing, expected)
        return expected

    def test_right_works(self):
        self.hold([[([], OUT)]], True)
        self.hold([[([], OUT)], FULL, [([("call", 0), ("call", 1), ("call", 2)], OUT)]], True)
        self.hold([[([("call", 0)], OUT)]], True)

    def test_calls_are_of_these_works(self):
        for many in (1, 2, 3, 24):
            for call in range(-2, 27):
                works = [[([], OUT)] for _ in range(many)]
                works[-1] = [([("call", call)], OUT)]
                self.hold(works, 0 <= call < many)
                works[0] = [([], ("go", 1)), ([("call", call)], OUT)]
                self.hold(works, 0 <= call < many)

    def test_one_wrong_work_anywhere(self):
        for at in range(3):
            for wrong in (None, True, 0, "", (), [], {}, [([], ("go", 0))], (([], OUT),), [[]], [[([], OUT)]]):
                works = [[([], OUT)] for _ in range(3)]
                works[at] = wrong
                self.hold(works, False)

    def test_things_that_are_no_list_of_works(self):
        for thing in ODD:
            self.hold_as_read(thing)
            self.hold_as_read([thing])
        for thing in ([], (), {}, None, True, False, 0, 1, "", "ab", ([([], OUT)],), {0: [([], OUT)]}, [([], OUT)]):
            self.hold(thing, False)

    def test_something_else_at_each_place(self):
        works = [FULL, [([], OUT)], [([("call", 1)], ("go", 1)), ([], OUT)]]
        self.hold(works, True)
        told = set()
        for place in places(works):
            for odd in list(bent(at_place(works, place))) + list(ODD):
                told.add(self.hold_as_read(with_put(works, place, odd)))
        self.assertEqual(told, {True, False})

    def test_works_by_chance(self):
        for seed in range(100):
            works = some_works(seed, ALL_WORDS)
            self.hold(works, True)
            self.hold_as_read(works[:-1])

    def test_many_works(self):
        many = 2000
        works = [[([("call", (at + 1) % many)], OUT)] for at in range(many)]
        self.assertIs(are_works(works), True)
        self.assertIs(are_works(works[:-1]), False)


if __name__ == "__main__":
    unittest.main()
