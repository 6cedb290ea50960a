"""Plans: in which blocks each box of a work is kept saved, what that puts on its ways, and where this can stand."""

from fewsaves.lives import busy
from fewsaves.works import boxes_in, is_number, is_number_from, ways_of


def is_inside(works, number, box, thing):
    """Whether it is a rising list of unlike blocks of that work, the box's busy ones among them."""
    many = len(works[number])
    if not isinstance(thing, list) or not all([is_number_from(at, 0, many) for at in thing]):
        return False
    if thing != sorted(set(thing)):
        return False
    return all([at in thing for at in busy(works, number, box)])


def is_plan(works, number, thing):
    """Whether it is a plan of that work."""
    # Python finds the key 1 by True too, so the keys are looked at themselves.
    if not isinstance(thing, dict) or not all([is_number(box) for box in thing]):
        return False
    if sorted(thing) != boxes_in(works[number]):
        return False
    return all([is_inside(works, number, box, inside) for box, inside in thing.items()])


def plain_plan(work):
    """The plan that keeps each box saved in all blocks."""
    return {box: list(range(len(work))) for box in boxes_in(work)}


def tight_plan(works, number):
    """The plan that keeps each box saved in its busy blocks alone."""
    return {box: busy(works, number, box) for box in boxes_in(works[number])}


def word_on(way, inside):
    """What is put on the way for a box that is kept saved inside: "save", "back", or None."""
    begin, to = way
    # The door comes from -1, and ways out lead behind the last block: so both are outside.
    if (begin in inside) == (to in inside):
        return None
    return "save" if to in inside else "back"


def put_on(work, plan):
    """The rising list of tuples (way, word, box) of all that the plan puts on ways."""
    words = [(way, word_on(way, plan[box]), box) for way in ways_of(work) for box in plan]
    return sorted([row for row in words if row[1] is not None])


def cost(work, plan, counts, prices):
    """What all that the plan puts costs together, by counts of the ways and prices (save, back)."""
    count_of = dict(zip(ways_of(work), counts))
    save, back = prices
    price_of = {"save": save, "back": back}
    return sum([count_of[way] * price_of[word] for way, word, box in put_on(work, plan)])


def home_of(work, way):
    """Where what is put on the way can stand: "end", "begin" or "split"."""
    if way == (-1, 0):
        return "begin"
    ways = ways_of(work)
    if len([other for other in ways if other[0] == way[0]]) == 1:
        return "end"
    if len([other for other in ways if other[1] == way[1]]) == 1:
        return "begin"
    return "split"


def splits(work, plan):
    """The rising list of the ways that must be split, something being put on them."""
    return sorted({way for way, word, box in put_on(work, plan) if home_of(work, way) == "split"})
