"""Desk: plain works and asks about them in one text, and the answers."""

from fewsaves.cuts import cheapest_plan
from fewsaves.errors import BadRow, NoWorks
from fewsaves.lives import busy
from fewsaves.measuring import measured
from fewsaves.plans import cost, plain_plan, put_on, splits
from fewsaves.runs import meant
from fewsaves.texts import read_works
from fewsaves.words import joined, read_box, read_number
from fewsaves.works import BOXES, is_plain, ways_of

STEPS = 2000

ASK_PARTS = {
    "count": ("WORK", "A", "B", "N"),
    "price": ("N", "N"),
    "shut": ("WORK", "A", "B"),
    "open": ("WORK", "A", "B"),
    "busy": ("WORK", "BOX"),
    "plan": ("WORK",),
    "put": ("WORK",),
    "splits": ("WORK",),
    "plain": ("WORK",),
    "run": ("WORK",),
    "measure": ("WORK",),
}

CHOOSING = ("run", "measure")


class Desk:
    """The works, and what asks have told of them so far."""

    def __init__(self, works):
        self.works = works
        self.counts = [[1 for way in ways_of(work)] for work in works]
        self.prices = (1, 1)
        self.shut = [[] for work in works]


def way_words(work, way):
    """The two words that name the way."""
    begin, to = way
    return ("door" if begin == -1 else str(begin), "out" if to == len(work) else str(to))


def way_text(work, way):
    """The way as answers name it."""
    begin, to = way_words(work, way)
    return f"{begin},{to}"


def way_named(work, begin, to):
    """The way that two words name, None where the work has none such."""
    for way in ways_of(work):
        if way_words(work, way) == (begin, to):
            return way
    return None


def read_part(works, word, kind):
    """What the word of an ask tells where that kind is due, None where it isn't so written or isn't there."""
    if kind in ("A", "B"):
        return word
    if kind == "BOX":
        return read_box(word)
    told = read_number(word)
    return None if told is None or kind == "WORK" and told >= len(works) else told


def kinds_due(word, many):
    """The kinds of the words that are due behind an ask's first word, of which there are so many."""
    if word in CHOOSING:
        return ASK_PARTS[word] + ("N",) * (many - 1)
    return ASK_PARTS[word]


def read_ask(works, row):
    """The ask's word and a list of what its other words tell; None where it isn't so written or names what isn't."""
    word, *rest = row.split(" ")
    if word not in ASK_PARTS:
        return None
    kinds = kinds_due(word, len(rest))
    if len(rest) != len(kinds):
        return None
    parts = [read_part(works, part, kind) for part, kind in zip(rest, kinds)]
    if None not in parts and "A" in kinds:
        parts[1:3] = [way_named(works[parts[0]], parts[1], parts[2])]
    return None if None in parts else (word, parts)


def read_asks(works, rows, first):
    """The asks of the rows, the first of which has that number; refused with BadRow."""
    found = []
    for at, row in enumerate(rows, start=first):
        ask = read_ask(works, row)
        if ask is None:
            raise BadRow(at)
        found.append(ask)
    return found


def do_count(desk, parts):
    """Takes a way's count."""
    number, way, count = parts
    desk.counts[number][ways_of(desk.works[number]).index(way)] = count
    return "done"


def do_price(desk, parts):
    """Takes the prices."""
    desk.prices = tuple(parts)
    return "done"


def do_open(desk, parts):
    """Shuts a way no more."""
    number, way = parts
    desk.shut[number] = [other for other in desk.shut[number] if other != way]
    return "done"


def do_shut(desk, parts):
    """Shuts a way."""
    number, way = parts
    if way not in desk.shut[number]:
        desk.shut[number].append(way)
    return "done"


def tell_busy(desk, parts):
    """The blocks in which the box is busy."""
    number, box = parts
    return joined([str(at) for at in busy(desk.works, number, box)])


def plan_now(desk, number):
    """The cheapest plan of the work by what the desk has been told, None where there is none."""
    return cheapest_plan(desk.works, number, desk.counts[number], desk.prices, desk.shut[number])


def box_words(desk, number, box, inside):
    """A box of a plan, with what it costs and the blocks in which it is kept saved."""
    price = cost(desk.works[number], {box: inside}, desk.counts[number], desk.prices)
    blocks = ",".join([str(at) for at in inside])
    return f"{box}:{price}:{blocks}"


def tell_plan(desk, parts):
    """The cheapest plan."""
    number = parts[0]
    plan = plan_now(desk, number)
    if plan is None:
        return "none"
    return joined([box_words(desk, number, box, plan[box]) for box in sorted(plan)])


def tell_put(desk, parts):
    """What the cheapest plan puts on ways."""
    work = desk.works[parts[0]]
    plan = plan_now(desk, parts[0])
    if plan is None:
        return "none"
    return joined([f"{way_text(work, way)}:{word}:{box}" for way, word, box in put_on(work, plan)])


def tell_splits(desk, parts):
    """The ways that the cheapest plan splits."""
    work = desk.works[parts[0]]
    plan = plan_now(desk, parts[0])
    if plan is None:
        return "none"
    return joined([way_text(work, way) for way in splits(work, plan)])


def tell_plain(desk, parts):
    """What the plain plan costs."""
    work = desk.works[parts[0]]
    return str(cost(work, plain_plan(work), desk.counts[parts[0]], desk.prices))


def tell_run(desk, parts):
    """The state of a run, and what it tells."""
    state, told = meant(desk.works, parts[0], [0] * BOXES, parts[1:], STEPS)
    return joined([state] + [str(held) for held in told])


def do_measure(desk, parts):
    """Takes the counts of a run, for all works."""
    desk.counts = measured(desk.works, parts[0], [0] * BOXES, parts[1:], STEPS)
    return "done"


DOERS = {
    "count": do_count,
    "price": do_price,
    "shut": do_shut,
    "open": do_open,
    "busy": tell_busy,
    "plan": tell_plan,
    "put": tell_put,
    "splits": tell_splits,
    "plain": tell_plain,
    "run": tell_run,
    "measure": do_measure,
}


def answer(desk, ask):
    """The answer to an ask."""
    word, parts = ask
    doer = DOERS[word]
    return doer(desk, parts)


def run_desk(text):
    """The list of the answers to the text's asks; refused with BadRow and NoWorks, ahead of all answers."""
    rows = text.split("\n")
    empty = rows.index("") if "" in rows else len(rows)
    works = read_works("\n".join(rows[:empty]))
    if not all([is_plain(work) for work in works]):
        raise NoWorks("a work lays boxes aside or brings them back by itself")
    found = read_asks(works, rows[empty + 1:], empty + 1)
    desk = Desk(works)
    return [answer(desk, ask) for ask in found]
