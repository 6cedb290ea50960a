"""run_desk: every ask, what it changes for those behind it, and what is refused ahead of all answers."""

import random
import re
import unittest

from fewsaves.desk import run_desk
from fewsaves.texts import works_text
from samples import (
    NUMBER, OUT, PlainRun, Reading, bent_texts, plain_asks, plain_best, plain_busy, plain_home, plain_put, plain_read,
    plain_ways, plain_writers, some_ending_works, some_works,
)

# Box 0 is set in block 1, block 2 may go round to it, block 3 calls work 1, which tells it.
# Ways: (-1, 0), (0, 1), (1, 2), (2, 1), (2, 3), (3, 4), (4, 5).
MAIN = [
    ([], ("go", 1)), ([("set", 0, 5)], ("go", 2)), ([], ("fork", 1, 3)), ([("call", 1)], ("go", 4)), ([], OUT),
]
WORKS = [MAIN, [([("tell", 0)], OUT)]]

# Boxes 3 and 5 are set in block 1, which block 0 may go round. Ways: (-1, 0), (0, 1), (0, 2), (1, 2), (2, 3).
SIDE = [([], ("fork", 1, 2)), ([("set", 3, 1), ("set", 5, 2), ("tell", 3)], ("go", 2)), ([("tell", 6)], OUT)]

ONE = [([("set", 4, -7), ("tell", 4)], OUT)]

MANY = f"(?P<many>{NUMBER})"
WORK = f"(?P<work>{NUMBER})"
WAY = f"(?P<start>door|{NUMBER}) (?P<to>out|{NUMBER})"
ASKS = (
    f"count {WORK} {WAY} {MANY}", f"price {NUMBER} {NUMBER}", f"(shut|open) {WORK} {WAY}", f"busy {WORK} [0-7]",
    f"(plan|put|splits|plain) {WORK}", f"(run|measure) {WORK}( {NUMBER})*",
)


class PlainDesk:
    """A desk reckoned by the words of the document: plans by looking at all lists of blocks."""

    def __init__(self, works):
        self.works = works
        self.asked = plain_asks(works)
        self.counts = [{way: 1 for way in plain_ways(work)} for work in works]
        self.prices = (1, 1)
        self.shut = [set() for work in works]

    def named(self, number, start, to):
        """The way that two words name, None where there is none."""
        many = len(self.works[number])
        if start == str(many) or to == str(many):
            return None
        way = (-1 if start == "door" else int(start), many if to == "out" else int(to))
        return way if way in plain_ways(self.works[number]) else None

    def is_right(self, row):
        match = next((match for match in (re.fullmatch(form, row) for form in ASKS) if match), None)
        if not match:
            return False
        groups = match.groupdict()
        if "work" in groups and int(groups["work"]) >= len(self.works):
            return False
        return "to" not in groups or self.named(int(groups["work"]), groups["start"], groups["to"]) is not None

    def written(self, number, way):
        start, to = way
        return f"{'door' if start < 0 else start},{'out' if to == len(self.works[number]) else to}"

    def plan(self, number):
        """For each box its cost and its cheapest list, by rising boxes; None where one has none."""
        found = {}
        work = self.works[number]
        counts = [self.counts[number][way] for way in plain_ways(work)]
        for box in range(8):
            if plain_writers(work, box):
                needed = plain_busy(self.works, number, box, self.asked)
                least, best = plain_best(work, needed, counts, self.prices, self.shut[number])
                if least is None:
                    return None
                found[box] = (least, min(best, key=len))
        return found

    def of_plan(self, word, number):
        plan = self.plan(number)
        if plan is None:
            return "none"
        if word == "plan":
            parts = [f"{box}:{price}:{','.join(map(str, inside))}" for box, (price, inside) in plan.items()]
        else:
            put = plain_put(self.works[number], {box: inside for box, (price, inside) in plan.items()})
            if word == "put":
                parts = [f"{self.written(number, way)}:{move}:{box}" for way, move, box in put]
            else:
                ways = sorted({way for way, move, box in put if plain_home(self.works[number], way) == "split"})
                parts = [self.written(number, way) for way in ways]
        return " ".join(parts) or "-"

    def ran(self, number, choices):
        return PlainRun(self.works, number, [0] * 8, choices, 2000, True)

    def answer(self, row):
        word, *parts = row.split(" ")
        if word == "price":
            self.prices = (int(parts[0]), int(parts[1]))
            return "done"
        number = int(parts[0])
        if word in ("plan", "put", "splits"):
            return self.of_plan(word, number)
        if word == "plain":
            counts = self.counts[number]
            backs = sum(count for way, count in counts.items() if way[1] == len(self.works[number]))
            each = counts[(-1, 0)] * self.prices[0] + backs * self.prices[1]
            return str(each * sum(bool(plain_writers(self.works[number], box)) for box in range(8)))
        if word == "busy":
            blocks = plain_busy(self.works, number, int(parts[1]), self.asked)
            return " ".join(map(str, blocks)) or "-"
        if word in ("run", "measure"):
            ran = self.ran(number, [int(part) for part in parts[1:]])
            if word == "run":
                return " ".join([ran.state] + [str(held) for held in ran.told()])
            self.counts = [dict(zip(plain_ways(work), counts)) for work, counts in zip(self.works, ran.counts())]
            return "done"
        way = self.named(number, parts[1], parts[2])
        if word == "count":
            self.counts[number][way] = int(parts[3])
        elif word == "shut":
            self.shut[number].add(way)
        else:
            self.shut[number].discard(way)
        return "done"


def plain_run_desk(text):
    """What a desk tells: ("answers", answers), ("row", number) or ("none",)."""
    rows = text.split("\n")
    many = rows.index("") if "" in rows else len(rows)
    told = plain_read("\n".join(rows[:many]))
    if told[0] != "works":
        return told
    if any(deed[0] in ("save", "back") for work in told[1] for deeds, end in work for deed in deeds):
        return ("none",)
    desk = PlainDesk(told[1])
    for at in range(many + 1, len(rows)):
        if not desk.is_right(rows[at]):
            return ("row", at)
    return ("answers", [desk.answer(row) for row in rows[many + 1:]])


def desk_text(works, *asks):
    return "\n".join([works_text(works), ""] + list(asks))


def some_way_words(dice, work):
    start, to = dice.choice(plain_ways(work))
    return f"{'door' if start < 0 else start} {'out' if to == len(work) else to}"


def some_ask(dice, works):
    """A right ask by chance."""
    word = dice.choice((
        "count", "count", "count", "price", "shut", "open", "busy", "plan", "plan", "plan", "put", "put", "splits",
        "plain", "run", "measure",
    ))
    number = dice.randrange(len(works))
    if word == "price":
        return f"price {dice.choice((0, 1, 2, 999999999))} {dice.choice((0, 1, 3, 1000000))}"
    if word == "count":
        return f"count {number} {some_way_words(dice, works[number])} {dice.choice((0, 1, 2, 7, 100, 999999999))}"
    if word in ("shut", "open"):
        return f"{word} {number} {some_way_words(dice, works[number])}"
    if word == "busy":
        return f"busy {number} {dice.randrange(8)}"
    if word in ("run", "measure"):
        return " ".join([word, str(number)] + [str(dice.choice((0, 0, 1, 5))) for _ in range(dice.randint(0, 20))])
    return f"{word} {number}"


class Holding(Reading, unittest.TestCase):
    tells = staticmethod(run_desk)
    reckoned = staticmethod(plain_run_desk)

    def hold(self, text, answers):
        told = run_desk(text)
        self.assertEqual(repr(told), repr(answers), text)

    def hold_asks(self, works, *pairs):
        """Asks, each with its answer, one behind the other on one desk."""
        self.hold(desk_text(works, *[ask for ask, told in pairs]), [told for ask, told in pairs])


class Answers(Holding):
    def test_no_asks(self):
        self.hold(works_text(WORKS), [])
        self.hold(works_text(WORKS) + "\n", [])

    def test_busy(self):
        self.hold_asks(
            WORKS, ("busy 0 0", "1 2 3"), ("busy 0 1", "-"), ("busy 1 0", "-"), ("busy 0 7", "-"), ("busy 0 0", "1 2 3"),
        )
        self.hold_asks([SIDE, ONE], ("busy 0 3", "1"), ("busy 0 6", "-"), ("busy 1 4", "0"))

    def test_plan(self):
        self.hold_asks(WORKS, ("plan 0", "0:2:1,2,3"), ("plan 1", "-"))
        self.hold_asks([SIDE, ONE], ("plan 0", "3:2:1 5:2:1"), ("plan 1", "4:2:0"))

    def test_plans_by_rising_boxes(self):
        work = [([("set", 7, 1), ("set", 0, 1)], ("go", 1)), ([("set", 3, 1)], OUT)]
        self.hold_asks([work], ("count 0 0 1 0", "done"), ("plan 0", "0:1:0 3:1:1 7:1:0"))

    def test_put(self):
        self.hold_asks(WORKS, ("put 0", "0,1:save:0 3,4:back:0"), ("put 1", "-"))
        self.hold_asks(
            [SIDE, ONE], ("put 0", "0,1:save:3 0,1:save:5 1,2:back:3 1,2:back:5"),
            ("put 1", "door,0:save:4 0,out:back:4"),
        )

    def test_put_as_put_on_has_it(self):
        # On (0, 1) box 1 is brought back and box 0 is saved: back comes ahead of save.
        work = [([("set", 1, 0)], ("go", 1)), ([("set", 0, 0)], OUT)]
        self.hold_asks([work], ("put 0", "door,0:save:1 0,1:back:1 0,1:save:0 1,out:back:0"))

    def test_splits(self):
        round_back = [([], ("go", 1)), ([("set", 0, 1)], ("go", 2)), ([], ("fork", 1, 3)), ([], OUT)]
        self.hold_asks(
            [round_back, SIDE], ("splits 0", "-"), ("plan 0", "0:2:1,2"), ("count 0 2 1 0", "done"),
            ("splits 0", "2,1"), ("plan 0", "0:2:1"), ("splits 1", "-"),
        )
        forks = [([("set", 0, 1)], ("fork", 2, 1)), ([], ("fork", 3, 2)), ([], ("fork", 3, 1)), ([("set", 0, 1)], OUT)]
        counts = [(f"count 0 {way} 0", "done") for way in ("0 1", "0 2", "1 3", "2 3")]
        self.hold_asks([forks], ("splits 0", "-"), *counts, ("splits 0", "0,1 0,2 1,3 2,3"), ("plan 0", "0:2:0,3"))

    def test_plain(self):
        self.hold_asks(
            [SIDE, ONE, [([("call", 0)], OUT)]], ("plain 0", "4"), ("plain 1", "2"), ("plain 2", "0"),
            ("count 0 door 0 10", "done"), ("plain 0", "22"), ("count 0 2 out 100", "done"), ("plain 0", "220"),
            ("price 3 1", "done"), ("plain 0", "260"), ("price 0 2", "done"), ("plain 0", "400"), ("plain 1", "2"),
        )

    def test_run(self):
        self.hold_asks(WORKS, ("run 0", "going"), ("run 0 1", "ended 5"), ("run 0 0 0 1", "ended 5"), ("run 1", "ended 0"))
        self.hold_asks(
            [SIDE, ONE], ("run 0", "ended 1 0"), ("run 0 7", "ended 0"), ("run 1", "ended -7"), ("run 1 3 4", "ended -7"),
        )
        self.hold_asks([[([], OUT)]], ("run 0", "ended"), ("run 0 0", "ended"))

    def test_run_tells_what_is_meant(self):
        # The called work's write of box 0 isn't seen by the caller.
        works = [[([("set", 0, 5), ("call", 1), ("tell", 0)], OUT)], [([("set", 0, 9), ("tell", 0)], OUT)]]
        self.hold_asks(works, ("run 0", "ended 9 5"))

    def test_run_of_2000_steps(self):
        # A step ahead of the rounds, 24 in each of the 82 rounds, and 31 or 32 behind them.
        choices = " ".join(["0"] * 81 + ["1"])
        for last, state in ((30, "ended"), (31, "going")):
            work = [([], ("go", 1)), ([("tell", 1)] * 23, ("fork", 1, 2)), ([("tell", 2)] * last, OUT)]
            self.assertEqual(1 + 24 * 82 + 1 + last, 2000 if state == "ended" else 2001)
            self.hold_asks([work], (f"run 0 {choices}", " ".join([state] + ["0"] * (23 * 82 + 30))))

    def test_run_that_is_deep(self):
        self.hold_asks([[([("tell", 0), ("call", 0)], OUT)]], ("run 0", " ".join(["deep"] + ["0"] * 20)))

    def test_choices_of_nine_figures(self):
        self.hold_asks([SIDE], ("run 0 999999999", "ended 0"), ("run 0 0 999999999", "ended 1 0"))

    def test_count(self):
        self.hold_asks(
            [SIDE], ("plan 0", "3:2:1 5:2:1"), ("count 0 0 1 5", "done"), ("plan 0", "3:2:0,1,2 5:2:0,1,2"),
            ("count 0 2 out 9", "done"), ("plan 0", "3:3:0,1 5:3:0,1"), ("count 0 0 2 9", "done"),
            ("plan 0", "3:6:1 5:6:1"), ("count 0 0 1 0", "done"), ("plan 0", "3:1:1 5:1:1"),
            ("count 0 1 2 0", "done"), ("plan 0", "3:0:1 5:0:1"),
        )

    def test_count_of_that_work_alone(self):
        self.hold_asks([ONE, ONE], ("count 0 door 0 9", "done"), ("plan 0", "4:10:0"), ("plan 1", "4:2:0"), ("plain 1", "2"))

    def test_counts_stay_until_told_otherwise(self):
        self.hold_asks(
            [ONE], ("count 0 door 0 9", "done"), ("count 0 0 out 999999999", "done"), ("plain 0", "1000000008"),
            ("count 0 door 0 0", "done"), ("plain 0", "999999999"),
        )

    def test_price(self):
        self.hold_asks(
            [ONE], ("plan 0", "4:2:0"), ("price 3 5", "done"), ("plan 0", "4:8:0"), ("plain 0", "8"), ("price 0 0", "done"),
            ("plan 0", "4:0:0"), ("price 999999999 1", "done"), ("plan 0", "4:1000000000:0"), ("price 0 999999999", "done"),
            ("plan 0", "4:999999999:0"),
        )

    def test_shut_and_open(self):
        self.hold_asks(
            WORKS, ("plan 0", "0:2:1,2,3"), ("shut 0 0 1", "done"), ("plan 0", "0:2:0,1,2,3"), ("shut 0 3 4", "done"),
            ("plan 0", "0:2:0,1,2,3,4"), ("put 0", "door,0:save:0 4,out:back:0"), ("shut 0 door 0", "done"),
            ("plan 0", "none"), ("put 0", "none"), ("splits 0", "none"), ("plain 0", "2"), ("busy 0 0", "1 2 3"),
            ("open 0 0 1", "done"), ("plan 0", "0:2:1,2,3,4"), ("open 0 door 0", "done"), ("open 0 3 4", "done"),
            ("plan 0", "0:2:1,2,3"),
        )

    def test_shut_twice_is_opened_by_once(self):
        self.hold_asks(
            [ONE], ("shut 0 door 0", "done"), ("shut 0 door 0", "done"), ("plan 0", "none"), ("open 0 door 0", "done"),
            ("plan 0", "4:2:0"), ("open 0 door 0", "done"), ("open 0 0 out", "done"), ("plan 0", "4:2:0"),
        )

    def test_shut_in_that_work_alone(self):
        self.hold_asks([ONE, ONE], ("shut 1 0 out", "done"), ("plan 0", "4:2:0"), ("plan 1", "none"), ("put 1", "none"))

    def test_a_work_without_boxes_is_never_without_a_plan(self):
        self.hold_asks(
            WORKS, ("shut 1 door 0", "done"), ("shut 1 0 out", "done"), ("plan 1", "-"), ("put 1", "-"), ("splits 1", "-"),
        )

    def test_measure(self):
        self.hold_asks(
            WORKS, ("measure 0 0 0 1", "done"), ("plain 0", "2"), ("count 0 3 4 0", "done"), ("plan 0", "0:1:1,2,3"),
            ("measure 1", "done"), ("plain 0", "0"), ("plan 0", "0:0:1,2,3"), ("measure 0", "done"), ("plain 0", "1"),
        )

    def test_measure_changes_the_counts_of_all_works(self):
        works = [ONE, [([("set", 1, 1), ("call", 0), ("call", 0)], OUT)], ONE]
        self.hold_asks(
            works, ("count 2 door 0 50", "done"), ("measure 1", "done"), ("plain 0", "4"), ("plain 1", "2"),
            ("plain 2", "0"), ("shut 0 door 0", "done"), ("measure 0", "done"), ("plain 0", "2"), ("plain 1", "0"),
            ("plan 0", "none"), ("price 5 5", "done"), ("measure 1", "done"), ("plain 0", "20"),
        )

    def test_runs_change_nothing(self):
        self.hold_asks([ONE], ("count 0 door 0 9", "done"), ("run 0", "ended -7"), ("plain 0", "10"), ("run 0", "ended -7"))

    def test_two_desks_know_nothing_of_one_another(self):
        changing = desk_text([ONE], "count 0 door 0 9", "price 4 4", "shut 0 0 out", "plan 0", "plain 0")
        asking = desk_text([ONE], "plan 0", "plain 0")
        for _ in range(2):
            self.hold(changing, ["done", "done", "done", "none", "40"])
            self.hold(asking, ["4:2:0", "2"])

    def test_what_is_told_is_the_askers_own(self):
        text = desk_text([ONE], "plan 0", "plain 0")
        told = run_desk(text)
        told.append("ruined")
        told[0] = None
        self.hold(text, ["4:2:0", "2"])
        empty = run_desk(works_text([ONE]))
        empty.append("ruined")
        self.hold(works_text([ONE]), [])

    def test_numbers_of_two_figures(self):
        work = [([], ("go", at + 1)) for at in range(14)] + [([("set", 6, 1)], ("go", 15)), ([], OUT)]
        works = [[([], OUT)]] * 10 + [work]
        self.hold_asks(
            works, ("busy 10 6", "14"), ("count 10 14 15 7", "done"), ("plan 10", "6:2:14,15"), ("shut 10 15 out", "done"),
            ("put 10", "13,14:save:6 14,15:back:6"), ("run 10", "ended"),
        )

    def test_drawn_desks(self):
        words = {}
        for seed in range(200):
            dice = random.Random(seed)
            works = some_works(seed) if seed % 2 else some_ending_works(seed, 6)
            asks = [some_ask(dice, works) for _ in range(25)]
            text = desk_text(works, *asks)
            self.assertEqual(self.hold_as_reckoned(text), "answers")
            for ask, told in zip(asks, run_desk(text)):
                words.setdefault(ask.split(" ")[0], set()).add(told)
        for word in ("plan", "put", "splits"):
            self.assertTrue({"none", "-"} < words[word], word)
            self.assertGreater(len(words[word]), 40, word)
        self.assertGreater(len(words["busy"]), 10)
        for state in ("ended", "going", "deep"):
            self.assertTrue(any(told.startswith(state) for told in words["run"]), state)

    def test_a_text_of_1000_rows(self):
        work = [([("set", at % 8, at)], ("go", at + 1)) for at in range(15)] + [([("tell", 0)], OUT)]
        head = works_text([work])
        many = 999 - head.count("\n") - 1
        asks = [("count 0 3 4 2", "plan 0", "run 0 1 2 3", "plain 0", "busy 0 7")[at % 5] for at in range(many)]
        text = desk_text([work], *asks)
        self.assertEqual(text.count("\n") + 1, 1000)
        self.assertEqual(self.hold_short(text, many), many)
        rows = text.split("\n")
        self.hold_row("\n".join(rows[:999] + ["plan 1"]), 999)
        self.hold_row("\n".join(rows[:998] + ["plan 1", "plan"]), 998)

    def hold_short(self, text, many):
        """The answers of a long text, held against those of its first ten asks."""
        told = run_desk(text)
        first = run_desk("\n".join(text.split("\n")[:len(text.split("\n")) - many + 10]))
        for at, answer in enumerate(told):
            if at >= 5:
                self.assertEqual(answer, first[5 + at % 5])
        return len(told)


class Refusals(Holding):
    def hold_bad(self, works, ask):
        """The ask is refused by itself, and with right ones ahead of it and wrong ones behind."""
        rows = works_text(works).count("\n") + 2
        self.hold_row(desk_text(works, ask), rows)
        self.hold_row(desk_text(works, "plain 0", "run 0", ask, "plain 0", "plan x", ""), rows + 2)

    def test_the_texts_of_works(self):
        for text, row in (
            ("", 0), ("\n", 0), ("\nplan 0", 0), ("work", 1), ("work\n", 1), ("work\n\nplan 0", 1), ("plan 0", 0),
            ("work\nblock\n\nout\n\nplan 0", 2), ("work\nblock\nset 8 0\nout\n\nplan 9", 2),
            ("work\nblock\nout\nplan 0", 3), ("work\nblock\nout\n \nplan 0", 3), ("\n\n", 0),
        ):
            self.hold_row(text, row)

    def test_no_works(self):
        for text in ("work\nblock\ngo 1", "work\nblock\ncall 1\nout\n\nplan 0", "work\nblock\nadd 0 8\nout\n\nplan x"):
            self.hold_none(text)

    def test_works_that_are_not_plain(self):
        for deed in ("save 0", "back 7"):
            for text in (
                f"work\nblock\n{deed}\nout", f"work\nblock\n{deed}\nout\n\nplan 0",
                f"work\nblock\nout\nwork\nblock\ngo 1\nblock\ntell 1\n{deed}\nout\n\nplan 0",
            ):
                self.hold_none(text)

    def test_of_several_the_one_told_first(self):
        self.hold_row("work\nblock\nsave 0\nset 0 x\nout\n\nplan x", 3)
        self.hold_none("work\nblock\nsave 0\nout\n\nplan x")
        self.hold_none("work\nblock\ncall 7\nout\n\nplan x")
        self.hold_row("work\nblock\nsave 0\ncall 7\n\nplan x", 4)
        self.hold_row("work\nblock\nout\n\nplan 0\nplan 1\nplan x", 5)

    def test_an_empty_row_among_asks(self):
        self.hold_row("work\nblock\nout\n\n", 4)
        self.hold_row("work\nblock\nout\n\n\nplan 0", 4)
        self.hold_row("work\nblock\nout\n\nplan 0\n", 5)
        self.hold_row("work\nblock\nout\n\nplan 0\n\nplan 0", 5)

    def test_words_too_few_and_too_many(self):
        for ask in (
            "count", "count 0", "count 0 door", "count 0 door 0", "count 0 door 0 1 1", "price", "price 1", "price 1 1 1",
            "shut", "shut 0", "shut 0 door", "shut 0 door 0 1", "open", "open 0", "open 0 door", "open 0 door 0 1", "busy",
            "busy 0", "busy 0 0 0", "plan", "plan 0 0", "put", "put 0 0", "splits", "splits 0 0", "plain", "plain 0 0",
            "run", "measure", "done", "widest 0", "ask", "0", "-", "work", "block", "out", "set 0 1", "call 0", "none",
        ):
            self.hold_bad(WORKS, ask)

    def test_works_that_are_not_there(self):
        for work in ("2", "3", "10", "999999999", "1000000000", "-1", "-0", "00", "01", "+1", "x", ""):
            for ask in (
                "count {} door 0 1", "shut {} door 0", "open {} door 0", "busy {} 0", "plan {}", "put {}", "splits {}",
                "plain {}", "run {}", "run {} 0", "measure {}", "measure {} 1",
            ):
                self.hold_bad(WORKS, ask.format(work))

    def test_ways_that_are_not_there(self):
        for way in (
            "door 1", "door out", "0 0", "0 2", "1 0", "0 out", "4 5", "-1 0", "3 5", "out 4", "0 door", "door door",
            "out out", "out 0", "5 out", "2 2", "3 2", "00 1", "0 01", "0 1,2", "Door 0", "4 Out", "door 00", "x 1", "1 x",
            "999999999 1", "1 1000000000", "1  2", "0, 1", "0,1",
        ):
            self.hold_bad(WORKS, f"count 0 {way} 1")
            self.hold_bad(WORKS, f"shut 0 {way}")
            self.hold_bad(WORKS, f"open 0 {way}")

    def test_ways_of_that_work(self):
        self.hold_bad(WORKS, "shut 1 0 1")
        self.hold_bad(WORKS, "shut 1 4 out")
        self.hold(desk_text(WORKS, "shut 1 0 out", "shut 0 0 1", "shut 0 4 out"), ["done"] * 3)

    def test_numbers(self):
        for word in ("-1", "-0", "00", "01", "1000000000", "9999999999", "+1", "x", "", "1.0", "1-", "0000000000", "door"):
            for ask in (
                "count 0 door 0 {}", "price {} 1", "price 1 {}", "run 0 {}", "run 0 {} 0", "run 0 0 {}", "measure 0 {}",
                "measure 0 1 {}",
            ):
                self.hold_bad(WORKS, ask.format(word))
        for word in ("0", "1", "10", "999999999", "100000000"):
            for ask in ("count 0 door 0 {}", "price {} 1", "price 1 {}", "run 1 {}", "measure 0 1 {}"):
                self.assertEqual(self.hold_as_reckoned(desk_text(WORKS, ask.format(word))), "answers")

    def test_boxes(self):
        for word in ("8", "9", "10", "-1", "-0", "00", "07", "x", "", "1000000000"):
            self.hold_bad(WORKS, f"busy 0 {word}")
        for box in range(8):
            self.assertEqual(self.hold_as_reckoned(desk_text(WORKS, f"busy 0 {box}")), "answers")

    def test_blanks_and_great_letters(self):
        for ask in ("plan 0", "count 0 door 0 1", "run 0 1 1", "price 1 1", "busy 0 0", "measure 0"):
            for bad in (" " + ask, ask + " ", ask.replace(" ", "  ", 1), ask.upper(), ask.title(), ask.replace(" ", "_")):
                self.hold_bad(WORKS, bad)
        self.hold_bad(WORKS, " ")
        self.hold_bad(WORKS, "x" * 200)
        self.hold_bad(WORKS, "run 0" + " " * 195)

    def test_rows_of_200_signs(self):
        choices = " 1" * 97
        self.assertEqual(len("run 0" + choices), 199)
        self.hold_asks([SIDE], ("run 0" + choices, "ended 0"), ("measure 0" + choices[:190], "done"), ("plain 0", "4"))

    def test_bent_texts(self):
        text = desk_text(
            [SIDE, ONE], "count 0 0 2 3", "price 2 1", "shut 0 door 0", "busy 0 3", "plan 0", "open 0 1 2", "put 1",
            "splits 0", "plain 1", "measure 0 1 0", "run 0 0",
        )
        words = ("door", "out", "plan", "run", "0", "2", "-1", "9", "00", "1000000000", "", "x")
        told = []
        for bent in bent_texts(text, " \n0289-xo,", words):
            told.append(self.hold_as_reckoned(bent))
        self.assertGreater(told.count("answers"), 300)
        self.assertGreater(told.count("row"), 1000)
        self.assertGreater(told.count("none"), 40)


if __name__ == "__main__":
    unittest.main()
