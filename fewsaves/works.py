"""Works: what one is, and its ways, boxes and rounds."""

from fewsaves.paths import led_to

BOXES = 8

WRITING = ("set", "add")

LAYING = ("save", "back")

DEED_PARTS = {
    "set": ("box", "number"),
    "add": ("box", "box"),
    "tell": ("box",),
    "call": ("work",),
    "save": ("box",),
    "back": ("box",),
}

END_BLOCKS = {"out": 0, "go": 1, "fork": 2}


def is_number(thing):
    """Whether it is a whole number; Python counts True and False as some, the document doesn't."""
    return isinstance(thing, int) and not isinstance(thing, bool)


def is_number_from(thing, low, beyond):
    """Whether it is a number, low or above, and below beyond."""
    return is_number(thing) and low <= thing < beyond


def has_word(thing):
    """Whether it is a tuple with a text first."""
    return isinstance(thing, tuple) and len(thing) > 0 and isinstance(thing[0], str)


def is_part(thing, kind, works):
    """Whether it may stand in a deed where that kind of part is due."""
    if kind == "box":
        return is_number_from(thing, 0, BOXES)
    if kind == "work":
        return is_number_from(thing, 0, works)
    return is_number(thing)


def is_deed(thing, works):
    """Whether it is a deed, calls being from 0 to below works."""
    if not has_word(thing) or thing[0] not in DEED_PARTS:
        return False
    kinds = DEED_PARTS[thing[0]]
    parts = thing[1:]
    if len(parts) != len(kinds):
        return False
    return all([is_part(part, kind, works) for part, kind in zip(parts, kinds)])


def is_end(thing, many):
    """Whether it is an end of a block in a work of so many blocks."""
    if not has_word(thing) or thing[0] not in END_BLOCKS:
        return False
    named = thing[1:]
    if len(named) != END_BLOCKS[thing[0]]:
        return False
    if not all([is_number_from(to, 1, many) for to in named]):
        return False
    return len(set(named)) == len(named)


def is_block(thing, many, works):
    """Whether it is a block of a work of so many blocks, calls being from 0 to below works."""
    if not isinstance(thing, tuple) or len(thing) != 2:
        return False
    deeds, end = thing
    if not isinstance(deeds, list) or not is_end(end, many):
        return False
    return all([is_deed(deed, works) for deed in deeds])


def is_work(thing, works):
    """Whether it is a work, calls being from 0 to below works."""
    if not isinstance(thing, list) or not thing:
        return False
    many = len(thing)
    if not all([is_block(block, many, works) for block in thing]):
        return False
    return len(led_to([0], nexts_of(thing))) == many


def are_works(thing):
    """Whether it is a list of works, one at least, whose calls are of these."""
    if not isinstance(thing, list) or not thing:
        return False
    return all([is_work(work, len(thing)) for work in thing])


def is_plain(work):
    """Whether the work neither lays boxes aside nor brings them back."""
    return not any([deed[0] in LAYING for deeds, end in work for deed in deeds])


def nexts_of(work):
    """For each block of the work the list of the blocks that its end names."""
    return {at: list(end[1:]) for at, (deeds, end) in enumerate(work)}


def ways_of(work):
    """The rising list of the work's ways (from, to): the door, those between blocks, those out."""
    ways = [(-1, 0)]
    for at, (deeds, end) in enumerate(work):
        if end[0] == "out":
            ways.append((at, len(work)))
        else:
            ways.extend([(at, to) for to in end[1:]])
    return sorted(ways)


def boxes_in(work):
    """The rising list of the boxes that the work writes."""
    return sorted({deed[1] for deeds, end in work for deed in deeds if deed[0] in WRITING})


def rounds_in(work):
    """The rising list of the ways between blocks that lie on a round."""
    nexts = nexts_of(work)
    rounds = []
    for at in range(len(work)):
        around = led_to([at], nexts)
        rounds.extend([(back, at) for back in around if at in nexts[back]])
    return sorted(rounds)
