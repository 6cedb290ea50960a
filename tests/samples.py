"""Works for the tests, and plain reckonings to hold the program's answers against."""

import copy
import itertools
import random
import re

from fewsaves.errors import BadRow, NoWorks
from fewsaves.lives import busy
from fewsaves.works import rounds_in

OUT = ("out",)

# Things of all kinds, for checkers.
ODD = (
    -(10 ** 30), -2, -1, 0, 1, 2, 3, 7, 8, 9, 10 ** 12, 10 ** 30, True, False, None,
    "", "out", "tell", "set", "Out", "save ", "0", "1",
    [], [0], [[]], ["out"], ["tell", 0], [([], OUT)], [("tell", 0)],
    (), (0,), (1,), ((),), ("out",), ("tell", 0), ("go", 1), ("go", 2), ("fork", 1, 2), ("fork", 2, 2), ([], OUT),
    (["tell"], 0), ({}, 0), (None, 0), (True,), (("out",),),
    {}, {0: 0}, {"out": 1}, {0: ([], OUT)}, [[[[[[[[[()]]]]]]]]],
)


def bent(thing):
    """The like of a thing in other kinds, or with a part too few, too many, twice or elsewhere."""
    if isinstance(thing, (list, tuple)):
        kind = list if isinstance(thing, list) else tuple
        parts = list(thing)
        yield tuple(parts) if kind is list else parts
        yield dict(enumerate(copy.deepcopy(parts)))
        yield repr(thing)
        yield kind(parts[::-1])
        for odd in (0, None, True, "out", [], ()):
            yield kind(parts + [odd])
            yield kind([odd] + parts)
        for at in range(len(parts)):
            yield kind(parts[:at] + parts[at + 1:])
            yield kind(parts[:at] + [parts[at]] + parts[at:])
    if type(thing) is int:
        for new in (thing - 1, thing + 1, -thing, str(thing), bool(thing), [thing], (thing,), {thing: thing}):
            yield new
    if isinstance(thing, str):
        for new in (thing.upper(), thing + " ", thing[:-1], [thing], (thing,), {thing: thing}):
            yield new


def ends_among(many):
    """All ends that a block of a work of so many blocks may have."""
    blocks = range(1, many)
    ends = [OUT]
    ends.extend(("go", to) for to in blocks)
    ends.extend(("fork", to, other) for to, other in itertools.permutations(blocks, 2))
    return ends


def all_led_to(ends):
    """Whether ways lead from block 0 to each block, found by going round until nothing new comes."""
    found = {0}
    while True:
        more = found | {to for at in found for to in ends[at][1:]}
        if more == found:
            return len(found) == len(ends)
        found = more


def shapes(many):
    """All works of so many blocks without deeds."""
    for ends in itertools.product(ends_among(many), repeat=many):
        if all_led_to(ends):
            yield [([], end) for end in ends]


def written_at(work, at, box):
    """The work with a write of the box in one of its blocks."""
    return [(deeds + ([("set", box, 1)] if here == at else []), end) for here, (deeds, end) in enumerate(work)]


def some_ends(dice, many, outs=0):
    """Ends by chance, ways out the more often the greater outs is."""
    choices = ends_among(many)
    choices += [OUT] * (outs * len(choices) // 8)
    while True:
        ends = [dice.choice(choices) for _ in range(many)]
        if all_led_to(ends):
            return ends


def some_deed(dice, works, boxes, words):
    word = dice.choice(words)
    box = dice.choice(boxes)
    if word == "set":
        return (word, box, dice.randint(-9, 9))
    if word == "add":
        return (word, box, dice.choice(boxes))
    if word == "call":
        return (word, dice.randrange(works))
    return (word, box)


PLAIN_WORDS = ("set", "add", "tell", "call")
ALL_WORDS = PLAIN_WORDS + ("save", "back")


def some_work(dice, works, most_blocks=5, most_deeds=3, boxes=(0, 1, 7), words=PLAIN_WORDS, outs=0):
    many = dice.randint(1, most_blocks)
    return [
        ([some_deed(dice, works, boxes, words) for _ in range(dice.randint(0, most_deeds))], end)
        for end in some_ends(dice, many, outs)
    ]


def some_works(seed, words=PLAIN_WORDS, most_works=4, most_deeds=3):
    dice = random.Random(seed)
    works = dice.randint(1, most_works)
    return [some_work(dice, works, most_deeds=most_deeds, words=words) for _ in range(works)]


def some_ending_works(seed, most_blocks=7):
    """Works of more blocks, of which each calls later ones alone, so that runs with calls often end."""
    dice = random.Random(seed)
    many = dice.randint(1, 4)
    works = []
    for number in range(many):
        words = PLAIN_WORDS if number + 1 < many else ("set", "add", "tell")
        work = some_work(dice, many, most_blocks=most_blocks, boxes=(0, 1, 2, 7), words=words, outs=2)
        works.append([
            ([("call", dice.randrange(number + 1, many)) if deed[0] == "call" else deed for deed in deeds], end)
            for deeds, end in work
        ])
    return works


def walks(work, at, most):
    """All walks of at most so many blocks that begin with this block, each a list of blocks."""
    found = [[at]]
    if most > 1:
        for to in work[at][1][1:]:
            found.extend([at] + walk for walk in walks(work, to, most - 1))
    return found


def plain_ways(work):
    found = {(-1, 0)}
    for at, (_, end) in enumerate(work):
        found |= {(at, to) for to in (end[1:] if len(end) > 1 else (len(work),))}
    return sorted(found)


def plain_rounds(work):
    many = len(work)
    return sorted(
        (at, to)
        for at in range(many)
        for to in work[at][1][1:]
        if any(walk[-1] == at for walk in walks(work, to, many))
    )


def plain_writers(work, box):
    return sorted({at for at, (deeds, _) in enumerate(work) for d in deeds if d[0] in ("set", "add") and d[1] == box})


def meets_read(work, walk, box, asked):
    """Whether a read of the box, or a call of a work that asks it, is met on the walk ahead of any write."""
    for deed in [deed for at in walk for deed in work[at][0]]:
        word = deed[0]
        if word == "tell" and deed[1] == box:
            return True
        if word == "add" and box in (deed[1], deed[2]):
            return True
        if word == "call" and box in asked[deed[1]]:
            return True
        if word == "set" and deed[1] == box:
            return False
    return False


def plain_awaited(works, number, box, asked):
    work = works[number]
    many = len(work)
    return [at for at in range(many) if any(meets_read(work, walk, box, asked) for walk in walks(work, at, many))]


def plain_asks(works):
    """Begun with none that ask, and gone round until no more come: so they are the fewest."""
    asked = [[] for _ in works]
    while True:
        more = [
            [box for box in range(8) if 0 in plain_awaited(works, number, box, asked)]
            for number in range(len(works))
        ]
        if more == asked:
            return asked
        asked = more


def plain_reached(work, box):
    found = set()
    for at in plain_writers(work, box):
        for walk in walks(work, at, len(work) + 1):
            found |= set(walk[1:])
    return sorted(found)


def plain_busy(works, number, box, asked):
    between = set(plain_reached(works[number], box)) & set(plain_awaited(works, number, box, asked))
    return sorted(between | set(plain_writers(works[number], box)))


class Stop(Exception):
    """What ends a plain run early; made with its state."""


class PlainRun:
    """A run reckoned by the words of the document; events tells all that happened in it, in order."""

    def __init__(self, works, number, boxes, choices, most, own):
        self.works = works
        self.choices = iter(choices)
        self.most = most
        self.own = own
        self.events = []
        self.steps = 0
        self.calls = 0
        self.boxes = list(boxes)
        try:
            self.call(number, self.boxes, 1)
            self.state = "ended"
        except Stop as stop:
            self.state = stop.args[0]

    def note(self, *event):
        self.events.append(event)

    def of(self, word):
        return [event[1:] for event in self.events if event[0] == word]

    def step(self):
        if self.steps == self.most:
            raise Stop("going")
        self.steps += 1

    def call(self, number, boxes, depth):
        if depth == 21:
            raise Stop("deep")
        self.calls += 1
        me = self.calls
        boxes = list(boxes) if self.own else boxes
        begun = list(boxes)
        aside = {}
        many = len(self.works[number])
        come_from, at = -1, 0
        while True:
            self.step()
            self.note("way", number, (come_from, at))
            deeds, end = self.works[number][at]
            for deed in deeds:
                self.do(deed, boxes, aside, me, depth)
            if end[0] == "out":
                break
            come_from = at
            at = end[1] if end[0] == "go" or next(self.choices, 0) == 0 else end[2]
        self.note("way", number, (at, many))
        self.note("out", me)
        for box in range(8):
            if boxes[box] != begun[box]:
                self.note("fault", number, box)

    def do(self, deed, boxes, aside, me, depth):
        word, first = deed[:2]
        if word == "save":
            self.note("save", me, first)
            aside.setdefault(first, []).append(boxes[first])
        elif word == "back":
            if first not in aside:
                raise Stop("bare")
            self.note("back", me, first)
            boxes[first] = aside[first][-1]
        else:
            self.step()
            if word == "set":
                boxes[first] = deed[2]
            elif word == "add":
                boxes[first] = boxes[first] + boxes[deed[2]]
            elif word == "tell":
                self.note("tell", boxes[first])
            elif word == "call":
                self.call(first, boxes, depth + 1)

    def told(self):
        return [number for (number,) in self.of("tell")]

    def moves(self):
        return (len(self.of("save")), len(self.of("back")))

    def counts(self):
        gone = self.of("way")
        return [[gone.count((at, way)) for way in plain_ways(work)] for at, work in enumerate(self.works)]


def wrong_turns(plain):
    """The (call, box) of a run whose saves and backs aren't by turns, a save first, and in ended calls a back last."""
    ended = {call for (call,) in plain.of("out")}
    moves = {}
    for event in plain.events:
        if event[0] in ("save", "back"):
            moves.setdefault(event[1:], []).append(event[0])
    return [
        (call, box) for (call, box), words in moves.items()
        if words != [("save", "back")[at % 2] for at in range(len(words))] or call in ended and words[-1] != "back"
    ]


def some_boxes(dice):
    return [dice.randint(-9, 9) for _ in range(8)]


def some_choices(dice, most=30):
    return [dice.choice((0, 0, 1, -1, 5)) for _ in range(dice.randint(0, most))]


def some_plan(dice, works, number):
    """A right plan: of each box the busy blocks, and others by chance."""
    work = works[number]
    plan = {}
    boxes = [box for box in range(8) if plain_writers(work, box)]
    dice.shuffle(boxes)
    for box in boxes:
        share = dice.random()
        others = [at for at in range(len(work)) if dice.random() < share]
        plan[box] = sorted(set(others) | set(busy(works, number, box)))
    return plan


def some_plans(dice, works):
    return [some_plan(dice, works, number) for number in range(len(works))]


def plain_put(work, plan):
    """All that is put, found by asking of each box and way whether it is saved ahead of the way and behind it."""
    found = set()
    for box, inside in plan.items():
        saved = {at: at in inside for at in range(len(work))}
        saved[-1] = saved[len(work)] = False
        for way in plain_ways(work):
            ahead, behind = saved[way[0]], saved[way[1]]
            if behind and not ahead:
                found.add((way, "save", box))
            if ahead and not behind:
                found.add((way, "back", box))
    return sorted(found)


def plain_home(work, way):
    from_there = [other for other in plain_ways(work) if other[0] == way[0]]
    to_there = [other for other in plain_ways(work) if other[1] == way[1]]
    if way == (-1, 0):
        return "begin"
    if from_there == [way]:
        return "end"
    return "begin" if to_there == [way] else "split"


def some_counts(dice, work):
    """Counts of the work's ways, among them often noughts and like ones, so that unlike lists cost the same."""
    among = dice.choice(((0,), (0, 1), (1, 2, 3), (0, 0, 1, 2, 7), (0, 1, 10 ** 12, 10 ** 12 - 1), range(1000)))
    return [dice.choice(among) for way in plain_ways(work)]


def some_prices(dice):
    among = dice.choice(((0, 1), (1,), (0, 1, 2, 5), (1, 10 ** 6)))
    return (dice.choice(among), dice.choice(among))


def some_shut(dice, work):
    """Ways by chance, in any order: none, few or many of them, or those of rounds."""
    share = dice.choice((0, 0, 0.1, 0.3, 0.6))
    ways = [way for way in plain_ways(work) if dice.random() < share]
    if dice.random() < 0.2:
        ways = rounds_in(work)
    dice.shuffle(ways)
    return ways


def some_asked(seed, most_blocks=7):
    """For each box of one work by chance a tuple of arguments for cheapest and its like, and the box's busy blocks."""
    dice = random.Random(seed)
    works = some_works(seed) if seed % 2 else some_ending_works(seed, most_blocks)
    number = dice.randrange(len(works))
    work = works[number]
    asked = plain_asks(works)
    for box in range(8):
        needed = plain_busy(works, number, box, asked)
        if needed:
            yield (works, number, box, some_counts(dice, work), some_prices(dice), some_shut(dice, work)), needed


def plain_lists(work, needed):
    """All rising lists of blocks with the needed ones among them."""
    others = [at for at in range(len(work)) if at not in needed]
    for many in range(len(others) + 1):
        for more in itertools.combinations(others, many):
            yield sorted(list(needed) + list(more))


def plain_price(work, inside, counts, prices, shut):
    """What one box kept saved there costs; None where it puts something on a shut way."""
    total = 0
    saved = set(inside)
    for way, count in zip(plain_ways(work), counts):
        if (way[0] in saved) != (way[1] in saved):
            if way in shut:
                return None
            total += count * prices[0] if way[1] in saved else count * prices[1]
    return total


def plain_best(work, needed, counts, prices, shut):
    """The least cost of all lists of blocks with the needed ones, and all lists that cost it; None and none of none."""
    least = None
    best = []
    for inside in plain_lists(work, needed):
        price = plain_price(work, inside, counts, prices, shut)
        if price is not None and (least is None or price <= least):
            best = (best if price == least else []) + [inside]
            least = price
    return least, best


def paper_faults(asked, needed, inside, flows):
    """Which sentences of the document a paper of flows doesn't keep, for a list of blocks; needed: the busy ones."""
    works, number, box, counts, prices, shut = asked
    work = works[number]
    many = len(work)
    ways = plain_ways(work)
    faults = []
    if not set(needed) <= set(inside) or inside != sorted(set(inside)) or not set(inside) <= set(range(many)):
        faults.append("inside")
    if plain_price(work, inside, counts, prices, shut) is None:
        faults.append("shut")
    if type(flows) is not list or len(flows) != len(ways) or any(type(flow) is not int for flow in flows):
        return faults + ["kinds"]
    for way, count, flow in zip(ways, counts, flows):
        if way not in shut and flow > count * prices[1]:
            faults.append("back")
        if way not in shut and flow < 0 - count * prices[0]:
            faults.append("save")
    for at in range(many):
        to_it = sum(flow for way, flow in zip(ways, flows) if way[1] == at)
        from_it = sum(flow for way, flow in zip(ways, flows) if way[0] == at)
        if at not in needed and to_it != from_it:
            faults.append("block")
    outs = sum(flow for way, flow in zip(ways, flows) if way[1] == many)
    door = sum(flow for way, flow in zip(ways, flows) if way == (-1, 0))
    if outs - door != plain_price(work, inside, counts, prices, []):
        faults.append("cost")
    return faults


def is_row(work, needed, shut, row):
    """Whether a list of unlike blocks leads from a needed one by shut ways to one that a shut way ties to outside."""
    if not row or len(set(row)) != len(row) or row[0] not in needed or not set(row) <= set(range(len(work))):
        return False
    tied = set(shut) | {(to, start) for start, to in shut}
    if any(pair not in tied for pair in zip(row, row[1:])):
        return False
    return (row[-1], -1) in tied or (row[-1], len(work)) in tied


def big_work(dice, many=16, boxes=(0, 3), share=0.2):
    """A work of many blocks, of which few write or read, with forks on and back."""
    ends = []
    for at in range(many - 1):
        other = dice.choice([to for to in range(1, many) if to != at + 1])
        ends.append(dice.choice((("go", at + 1), ("fork", at + 1, other), ("fork", other, at + 1))))
    ends.append(OUT)
    deeds = [
        [some_deed(dice, 1, boxes, ("set", "add", "tell")) for _ in range(2) if dice.random() < share] for _ in ends
    ]
    deeds[dice.randrange(many)].append(("set", boxes[0], 1))
    deeds[dice.randrange(many)].append(("set", boxes[1], 1))
    return list(zip(deeds, ends))


NUMBER = "(?:0|[1-9][0-9]{0,8})"
ROWS = {
    "w": "work",
    "b": "block",
    "d": f"set [0-7] (?:0|-?[1-9][0-9]{{0,11}}|-?10{{12}})|add [0-7] {NUMBER}|(?:tell|save|back) [0-7]|call {NUMBER}",
    "e": f"out|go {NUMBER}|fork {NUMBER} {NUMBER}",
}
TEXT = "(?:w(?:bd*e)+)+"


def are_plainly_works(works):
    """Whether what rightly written rows tell are works."""
    for work in works:
        ends = [end for deeds, end in work]
        named = [to for end in ends for to in end[1:]]
        if not all(0 < to < len(work) for to in named) or not all_led_to(ends):
            return False
        if any(len(set(end[1:])) != len(end) - 1 for end in ends):
            return False
        for deed in [deed for deeds, end in work for deed in deeds]:
            if deed[0] == "call" and deed[1] >= len(works) or deed[0] == "add" and deed[2] > 7:
                return False
    return True


def plain_read(text):
    """What is read of a text of works: ("works", works), ("row", number) or ("none",)."""
    rows = text.split("\n")
    letters = ""
    works = []
    for at, row in enumerate(rows):
        letters += next((letter for letter, form in ROWS.items() if re.fullmatch(form, row)), "-")
        # A row can stand there where some rows behind it would make a text of it all.
        if not any(re.fullmatch(TEXT, letters + more) for more in ("", "e", "be")):
            return ("row", at)
    if not re.fullmatch(TEXT, letters):
        return ("row", len(rows))
    for letter, row in zip(letters, rows):
        told = tuple(int(word) if re.fullmatch("-?[0-9]+", word) else word for word in row.split(" "))
        if letter == "w":
            works.append([])
        elif letter == "b":
            works[-1].append([[]])
        elif letter == "d":
            works[-1][-1][0].append(told)
        else:
            works[-1][-1].append(told)
    works = [[tuple(block) for block in work] for work in works]
    return ("works", works) if are_plainly_works(works) else ("none",)


def bent_texts(text, signs, words):
    """The text with a sign, a word or a row put in, left out, or exchanged, at each place, or broken off there."""
    for at in range(len(text) + 1):
        yield text[:at]
        yield text[:at] + text[at + 1:]
        for sign in signs:
            yield text[:at] + sign + text[at:]
            yield text[:at] + sign + text[at + 1:]
    rows = text.split("\n")
    for at, row in enumerate(rows):
        for new in bent_rows(row, words):
            yield "\n".join(rows[:at] + new + rows[at + 1:])
        for other in range(at):
            swapped = list(rows)
            swapped[at], swapped[other] = rows[other], rows[at]
            yield "\n".join(swapped)


def bent_rows(row, words):
    """What may stand in a row's place: lists of rows."""
    yield []
    yield [row, row]
    yield [row, ""]
    yield [" " + row]
    yield [row + " "]
    yield [row.upper()]
    parts = row.split(" ")
    for at in range(len(parts) + 1):
        yield [" ".join(parts[:at] + parts[at + 1:])]
        yield [" ".join(parts[:at] + ["0"] + parts[at:])]
        for word in words:
            yield [" ".join(parts[:at] + [word] + parts[at + 1:])]


class Reading:
    """For tests of what reads texts: tells is asked, and held against reckoned; hold holds a right text."""

    def hold_row(self, text, row):
        with self.assertRaises(BadRow) as caught:
            self.tells(text)
        self.assertIs(type(caught.exception), BadRow)
        self.assertIs(type(caught.exception.row), int)
        self.assertEqual(caught.exception.row, row, text)

    def hold_none(self, text):
        with self.assertRaises(NoWorks) as caught:
            self.tells(text)
        self.assertIs(type(caught.exception), NoWorks)

    def hold_as_reckoned(self, text):
        told = self.reckoned(text)
        if told[0] == "row":
            self.hold_row(text, told[1])
        elif told[0] == "none":
            self.hold_none(text)
        else:
            self.hold(text, told[1])
        return told[0]
