"""Works for the tests, and plain reckonings to hold the program's answers against."""

import itertools
import random

OUT = ("out",)


def ends_among(many):
    """All ends that a block of a work of so many blocks may have."""
    blocks = range(1, many)
    ends = [OUT]
    ends.extend(("go", to) for to in blocks)
    ends.extend(("fork", to, other) for to, other in itertools.permutations(blocks, 2))
    return ends


def all_led_to(ends):
    """Whether ways lead from block 0 to each block, found by going round until nothing new comes."""
    found = {0}
    while True:
        more = found | {to for at in found for to in ends[at][1:]}
        if more == found:
            return len(found) == len(ends)
        found = more


def shapes(many):
    """All works of so many blocks without deeds."""
    for ends in itertools.product(ends_among(many), repeat=many):
        if all_led_to(ends):
            yield [([], end) for end in ends]


def some_ends(dice, many):
    choices = ends_among(many)
    while True:
        ends = [dice.choice(choices) for _ in range(many)]
        if all_led_to(ends):
            return ends


def some_deed(dice, works, boxes, words):
    word = dice.choice(words)
    box = dice.choice(boxes)
    if word == "set":
        return (word, box, dice.randint(-9, 9))
    if word == "add":
        return (word, box, dice.choice(boxes))
    if word == "call":
        return (word, dice.randrange(works))
    return (word, box)


PLAIN_WORDS = ("set", "add", "tell", "call")
ALL_WORDS = PLAIN_WORDS + ("save", "back")


def some_work(dice, works, most_blocks=5, most_deeds=3, boxes=(0, 1, 7), words=PLAIN_WORDS):
    many = dice.randint(1, most_blocks)
    return [
        ([some_deed(dice, works, boxes, words) for _ in range(dice.randint(0, most_deeds))], end)
        for end in some_ends(dice, many)
    ]


def some_works(seed, words=PLAIN_WORDS, most_works=4, most_deeds=3):
    dice = random.Random(seed)
    works = dice.randint(1, most_works)
    return [some_work(dice, works, most_deeds=most_deeds, words=words) for _ in range(works)]


def walks(work, at, most):
    """All walks of at most so many blocks that begin with this block, each a list of blocks."""
    found = [[at]]
    if most > 1:
        for to in work[at][1][1:]:
            found.extend([at] + walk for walk in walks(work, to, most - 1))
    return found


def plain_ways(work):
    found = {(-1, 0)}
    for at, (_, end) in enumerate(work):
        found |= {(at, to) for to in (end[1:] if len(end) > 1 else (len(work),))}
    return sorted(found)


def plain_rounds(work):
    many = len(work)
    return sorted(
        (at, to)
        for at in range(many)
        for to in work[at][1][1:]
        if any(walk[-1] == at for walk in walks(work, to, many))
    )


def plain_writers(work, box):
    return sorted({at for at, (deeds, _) in enumerate(work) for d in deeds if d[0] in ("set", "add") and d[1] == box})


def meets_read(work, walk, box, asked):
    """Whether a read of the box, or a call of a work that asks it, is met on the walk ahead of any write."""
    for deed in [deed for at in walk for deed in work[at][0]]:
        word = deed[0]
        if word == "tell" and deed[1] == box:
            return True
        if word == "add" and box in (deed[1], deed[2]):
            return True
        if word == "call" and box in asked[deed[1]]:
            return True
        if word == "set" and deed[1] == box:
            return False
    return False


def plain_awaited(works, number, box, asked):
    work = works[number]
    many = len(work)
    return [at for at in range(many) if any(meets_read(work, walk, box, asked) for walk in walks(work, at, many))]


def plain_asks(works):
    """Begun with none that ask, and gone round until no more come: so they are the fewest."""
    asked = [[] for _ in works]
    while True:
        more = [
            [box for box in range(8) if 0 in plain_awaited(works, number, box, asked)]
            for number in range(len(works))
        ]
        if more == asked:
            return asked
        asked = more


def plain_reached(work, box):
    found = set()
    for at in plain_writers(work, box):
        for walk in walks(work, at, len(work) + 1):
            found |= set(walk[1:])
    return sorted(found)


def plain_busy(works, number, box, asked):
    between = set(plain_reached(works[number], box)) & set(plain_awaited(works, number, box, asked))
    return sorted(between | set(plain_writers(works[number], box)))
