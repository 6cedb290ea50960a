"""works_text and read_works: texts of works, there and back, and what is refused."""

import copy
import random
import unittest

from fewsaves.building import built_all
from fewsaves.texts import read_works, works_text
from fewsaves.works import are_works
from samples import ALL_WORDS, OUT, Reading, bent_texts, plain_read, some_ending_works, some_plans, some_works

GREAT = 10 ** 12

WORKS = [
    [
        ([("set", 0, -5), ("add", 7, 0), ("tell", 3)], ("fork", 2, 1)), ([], ("go", 2)),
        ([("save", 1), ("call", 1), ("back", 1)], OUT),
    ],
    [([("set", 2, 10)], OUT)],
]
TEXT = "\n".join((
    "work", "block", "set 0 -5", "add 7 0", "tell 3", "fork 2 1", "block", "go 2", "block", "save 1", "call 1", "back 1",
    "out", "work", "block", "set 2 10", "out",
))

ONE = "work\nblock\nout"


class WorksText(unittest.TestCase):
    def hold(self, works, expected):
        kept = copy.deepcopy(works)
        told = works_text(works)
        self.assertIs(type(told), str)
        self.assertEqual(told, expected)
        self.assertEqual(works, kept)

    def test_answers(self):
        self.hold([[([], OUT)]], ONE)
        self.hold(WORKS, TEXT)

    def test_each_deed(self):
        for deed, row in (
            (("set", 0, 0), "set 0 0"), (("set", 7, GREAT), "set 7 1000000000000"),
            (("set", 1, -GREAT), "set 1 -1000000000000"), (("add", 2, 2), "add 2 2"), (("add", 1, 6), "add 1 6"),
            (("tell", 4), "tell 4"), (("call", 0), "call 0"), (("save", 5), "save 5"), (("back", 6), "back 6"),
        ):
            self.hold([[([deed], OUT)]], f"work\nblock\n{row}\nout")

    def test_numbers_of_two_figures(self):
        works = [[([("call", 23)], OUT)]] + [[([], OUT)]] * 23
        self.hold(works, "\n".join(["work\nblock\ncall 23\nout"] + [ONE] * 23))
        work = [([], ("go", at + 1)) for at in range(14)] + [([], ("fork", 15, 10)), ([], OUT)]
        rows = [f"block\ngo {at + 1}" for at in range(14)] + ["block\nfork 15 10", "block\nout"]
        self.hold([work], "work\n" + "\n".join(rows))

    def test_what_building_told(self):
        self.hold(built_all([[([("set", 4, 1)], OUT)]], [{4: [0]}]), "work\nblock\nsave 4\nset 4 1\nback 4\nout")

    def test_like_works_and_like_deeds_are_told_each_time(self):
        deeds = [("tell", 1)]
        work = [(deeds, ("go", 1)), (deeds, OUT)]
        text = "work\nblock\ntell 1\ngo 1\nblock\ntell 1\nout"
        self.hold([work, work], text + "\n" + text)


class ReadWorks(Reading, unittest.TestCase):
    tells = staticmethod(read_works)
    reckoned = staticmethod(plain_read)

    def hold(self, text, works):
        told = read_works(text)
        # How it is written tells lists from tuples.
        self.assertEqual(repr(told), repr(works))
        self.assertIs(are_works(told), True)

    def in_block(self, row):
        """The text of a work with a block of that one row ahead of its end."""
        return f"work\nblock\n{row}\nout"

    def test_answers(self):
        self.hold(ONE, [[([], OUT)]])
        self.hold(TEXT, WORKS)
        self.hold(ONE + "\n" + ONE, [[([], OUT)], [([], OUT)]])

    def test_there_and_back(self):
        for seed in range(150):
            plain = some_ending_works(seed)
            for works in (some_works(seed, ALL_WORDS), plain, built_all(plain, some_plans(random.Random(seed), plain))):
                text = works_text(works)
                self.hold(text, works)
                self.assertEqual(works_text(read_works(text)), text)

    def test_numbers_at_and_beyond_their_bounds(self):
        for word, held in (
            ("0", 0), ("1", 1), ("-1", -1), ("9", 9), ("10", 10), ("-10", -10), ("999999999999", GREAT - 1),
            ("1000000000000", GREAT), ("-1000000000000", -GREAT), ("-999999999999", 1 - GREAT),
        ):
            self.hold(self.in_block(f"set 3 {word}"), [[([("set", 3, held)], OUT)]])
        for word in (
            "1000000000001", "-1000000000001", "9999999999999", "10000000000000", "-10000000000000", "-0", "00", "01",
            "-01", "-00", "+1", "1.0", "1e3", "--1", "-", "", "- 1", "1-", "1_0", "0x1", "x", "one", " 1", "1 ", "1 1",
            "0" * 13, "9" * 150,
        ):
            self.hold_row(self.in_block(f"set 3 {word}"), 2)

    def test_boxes(self):
        for row in ("set {} 1", "add {} 0", "tell {}", "save {}", "back {}"):
            for box in range(8):
                self.assertEqual(self.hold_as_reckoned(self.in_block(row.format(box))), "works")
            for word in ("8", "9", "10", "-1", "-0", "00", "07", "+1", "", "x", "1 2", "1000000000"):
                self.hold_row(self.in_block(row.format(word)), 2)

    def test_others_have_at_most_nine_figures(self):
        for row in ("call {}", "add 0 {}"):
            for word in ("8", "99", "100000000", "999999999"):
                self.hold_none(self.in_block(row.format(word)))
            for word in ("1000000000", "9999999999", "-1", "-0", "00", "01", "0000000001", "", "x", "+1", "1 1"):
                self.hold_row(self.in_block(row.format(word)), 2)
        for end in ("go {}", "fork {} 1", "fork 1 {}"):
            for word in ("0", "2", "999999999"):
                self.hold_none(f"work\nblock\n{end.format(word)}\nblock\nout")
            for word in ("1000000000", "-1", "00", "01", "", "x", "1 1"):
                self.hold_row(f"work\nblock\n{end.format(word)}\nblock\nout", 2)

    def test_the_other_of_an_add(self):
        # OTHER is written as others are; that it is no box makes no works of them.
        for other in range(8):
            self.hold(self.in_block(f"add 2 {other}"), [[([("add", 2, other)], OUT)]])
        self.hold_none(self.in_block("add 2 8"))

    def test_no_works(self):
        for text in (
            "work\nblock\ncall 1\nout", "work\nblock\ngo 0", "work\nblock\ngo 1", "work\nblock\nout\nblock\nout",
            "work\nblock\nfork 1 1\nblock\nout", "work\nblock\nfork 0 1\nblock\nout", "work\nblock\nfork 1 2\nblock\nout",
            "work\nblock\ngo 1\nblock\ngo 1\nblock\nout", ONE + "\nwork\nblock\ncall 2\nout",
            ONE + "\nwork\nblock\ngo 1\nblock\ngo 0",
        ):
            self.hold_none(text)

    def test_a_bad_row_goes_ahead_of_no_works(self):
        self.hold_row("work\nblock\ncall 9\nout\nout", 4)
        self.hold_row("work\nblock\ngo 9\nblock\nset 8 0\nout", 4)
        self.hold_row("work\nblock\ngo 9\nwork", 4)

    def test_the_first_bad_row(self):
        self.hold_row("work\nblock\nset 0 x\ntell 9\nout", 2)
        self.hold_row("work\nblock\nset 0 1\ntell 9\nblock", 3)
        self.hold_row("work\nblock\nblock\ntell 9", 2)

    def test_rows_that_can_not_stand_there(self):
        for text, row in (
            ("block\nout", 0), ("out", 0), ("tell 0", 0), ("go 1", 0), ("work\nwork\nblock\nout", 1),
            ("work\nout", 1), ("work\ntell 0", 1), ("work\nblock\nwork\nblock\nout", 2), ("work\nblock\nblock\nout", 2),
            ("work\nblock\ntell 0\nblock\nout", 3), ("work\nblock\ntell 0\nwork", 3), ("work\nblock\nout\nout", 3),
            ("work\nblock\nout\ntell 0", 3), ("work\nblock\nout\ngo 1", 3), ("work\nblock\ngo 1\nfork 1 2", 3),
        ):
            self.hold_row(text, row)

    def test_texts_that_break_off(self):
        rows = TEXT.split("\n")
        for many in range(1, len(rows)):
            text = "\n".join(rows[:many])
            if rows[many - 1].split(" ")[0] in ("out", "go", "fork"):
                self.assertEqual(self.hold_as_reckoned(text), "works" if many == len(rows) else "none")
            else:
                self.hold_row(text, many)

    def test_the_empty_text_and_line_ends_too_many(self):
        self.hold_row("", 0)
        self.hold_row("\n", 0)
        self.hold_row("\n\n\n", 0)
        self.hold_row("\n" + ONE, 0)
        self.hold_row(ONE + "\n", 3)
        self.hold_row(ONE + "\n\n", 3)
        self.hold_row("work\n", 1)
        self.hold_row("work\n\nblock\nout", 1)
        self.hold_row("work\nblock\n\nout", 2)
        self.hold_row(ONE + "\n\n" + ONE, 3)

    def test_blanks_too_many(self):
        for text, row in (
            (" work\nblock\nout", 0), ("work \nblock\nout", 0), ("work\n block\nout", 1), ("work\nblock \nout", 1),
            ("work\nblock\nout ", 2), ("work\nblock\n out", 2), ("work\nblock\nset  0 1\nout", 2),
            ("work\nblock\nset 0  1\nout", 2), ("work\nblock\nset 0 1 \nout", 2), ("work\nblock\n set 0 1\nout", 2),
            (" ", 0), ("work\nblock\n \nout", 2), ("work block\nout", 0), ("work\nblock out", 1),
        ):
            self.hold_row(text, row)

    def test_words_written_otherwise(self):
        for word in ("Work", "WORK", "works", "wor", "w", "work:", "#", "~", "-", "0", "block 0", "work 0", "out 0"):
            self.hold_row(word + "\nblock\nout", 0)
        for row in ("Set 0 1", "sets 0 1", "set", "set 0", "set 0 1 2", "add 0", "tell", "tell 0 1", "call", "save", "back"):
            self.hold_row(self.in_block(row), 2)
        for end in ("Out", "out 1", "go", "go 1 1", "fork", "fork 1", "fork 1 2 3", "exit", "goto 1"):
            self.hold_row(f"work\nblock\n{end}", 2)

    def test_bent_texts(self):
        told = []
        words = ("work", "block", "out", "go", "set", "add", "call", "tell", "-1", "8", "00", "1000000000", "", "x")
        for text in bent_texts(TEXT, " \n0189-xo.", words):
            told.append(self.hold_as_reckoned(text))
        for state in ("works", "row", "none"):
            self.assertGreater(told.count(state), 50, state)

    def test_texts_of_drawn_rows(self):
        rows = ("work", "block", "tell 0", "set 1 -7", "call 0", "out", "go 1", "fork 1 2")
        told = []
        for seed in range(2000):
            dice = random.Random(seed)
            text = ["work", "block"]
            for _ in range(dice.randint(0, 6)):
                text += dice.choice((["out", "block"], ["go 1", "block"], ["out", "work", "block"], [dice.choice(rows)]))
            told.append(self.hold_as_reckoned("\n".join(text + ["out"])))
        for state in ("works", "row", "none"):
            self.assertGreater(told.count(state), 100, state)

    def test_a_text_of_1000_rows(self):
        works = [[([("set", 5, GREAT)] * 24, OUT)] for _ in range(36)]
        works.append([([("call", 36)] * 22, ("go", 1)), ([("tell", 1)], OUT)])
        text = works_text(works)
        self.assertEqual(text.count("\n") + 1, 1000)
        self.hold(text, works)
        rows = text.split("\n")
        for at in (0, 500, 998, 999):
            self.hold_row("\n".join(rows[:at] + ["tell 8"] + rows[at + 1:]), at)
        self.hold_row("\n".join(rows[:999]), 999)

    def test_rows_of_200_signs(self):
        for row in ("set 0 " + "1" * 194, "x" * 200, " " * 200, "call " + "0" * 195, "~" * 200):
            self.assertEqual(len(row), 200)
            self.hold_row(self.in_block(row), 2)

    def test_what_is_told_is_the_askers_own(self):
        first = read_works(TEXT)
        second = read_works(TEXT)
        for work in first:
            for deeds, end in work:
                deeds.append("ruined")
            work.append(None)
        first.append([])
        self.assertEqual(second, WORKS)
        self.assertEqual(read_works(TEXT), WORKS)

    def test_blocks_without_deeds_have_lists_of_their_own(self):
        told = read_works("work\nblock\ngo 1\nblock\nout\nwork\nblock\nout")
        told[0][0][0].append("ruined")
        self.assertEqual((told[0][1], told[1]), (([], OUT), [([], OUT)]))


if __name__ == "__main__":
    unittest.main()
