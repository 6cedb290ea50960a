"""Texts: works as rows of words."""

from fewsaves.errors import BadRow, NoWorks
from fewsaves.words import read_box, read_held, read_number
from fewsaves.works import END_BLOCKS, are_works

ROW_PARTS = {
    "work": (),
    "block": (),
    "set": ("BOX", "N"),
    "add": ("BOX", "OTHER"),
    "tell": ("BOX",),
    "call": ("WORK",),
    "save": ("BOX",),
    "back": ("BOX",),
    "out": (),
    "go": ("TO",),
    "fork": ("TO", "OTHER"),
}

# Behind which kinds of rows a row of each kind may stand.
BEHIND = {
    "work": ("nothing", "end"),
    "block": ("work", "end"),
    "deed": ("block", "deed"),
    "end": ("block", "deed"),
}


def row_of(part):
    """The row that tells a deed or an end."""
    return " ".join([str(word) for word in part])


def works_text(works):
    """The text of the works."""
    rows = []
    for work in works:
        rows.append("work")
        for deeds, end in work:
            rows.append("block")
            rows.extend([row_of(part) for part in deeds + [end]])
    return "\n".join(rows)


def read_part(word, kind):
    """What the word tells where that kind of part is due, None where it isn't so written."""
    if kind == "BOX":
        return read_box(word)
    return read_held(word) if kind == "N" else read_number(word)


def read_row(row):
    """The row's first word and what the others tell, as a tuple; None where the row isn't so written."""
    first, *rest = row.split(" ")
    if first not in ROW_PARTS or len(rest) != len(ROW_PARTS[first]):
        return None
    parts = [read_part(word, kind) for word, kind in zip(rest, ROW_PARTS[first])]
    return None if None in parts else (first,) + tuple(parts)


def kind_of(first):
    """The kind of the rows with that first word."""
    if first in BEHIND:
        return first
    return "end" if first in END_BLOCKS else "deed"


def read_blocks(rows):
    """The list of what the rows tell as works, be they works or not; refused with BadRow."""
    works = []
    deeds = []
    last = "nothing"
    for at, row in enumerate(rows):
        told = read_row(row)
        if told is None or last not in BEHIND[kind_of(told[0])]:
            raise BadRow(at)
        last = kind_of(told[0])
        if last == "work":
            works.append([])
        elif last == "block":
            deeds = []
        elif last == "deed":
            deeds.append(told)
        else:
            works[-1].append((deeds, told))
    if last != "end":
        raise BadRow(len(rows))
    return works


def read_works(text):
    """The works that the text tells; refused with BadRow, then with NoWorks."""
    works = read_blocks(text.split("\n"))
    if not are_works(works):
        raise NoWorks("the rows are rightly written, but tell no works")
    return works
