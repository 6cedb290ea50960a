"""Building: works with all that plans put on their ways."""

from fewsaves.plans import home_of, put_on, splits


def deeds_on(work, plan):
    """For each way on which something is put the list of these deeds, by rising boxes."""
    found = {}
    for way, word, box in sorted(put_on(work, plan), key=lambda row: row[2]):
        found.setdefault(way, []).append((word, box))
    return found


def end_led(at, end, new):
    """The end of the block, leading to the new blocks that stand on its split ways."""
    return (end[0],) + tuple([new.get((at, to), to) for to in end[1:]])


def built(work, plan):
    """The work with all that the plan puts, each thing at its way's home."""
    put = deeds_on(work, plan)
    split = splits(work, plan)
    # At each end of a block at most one way is at home, so the block alone tells which deeds stand there.
    begins = {way[1]: put[way] for way in put if home_of(work, way) == "begin"}
    ends = {way[0]: put[way] for way in put if home_of(work, way) == "end"}
    new = {way: len(work) + at for at, way in enumerate(split)}
    blocks = [
        (begins.get(at, []) + deeds + ends.get(at, []), end_led(at, end, new))
        for at, (deeds, end) in enumerate(work)
    ]
    blocks.extend([(put[way], ("go", way[1])) for way in split])
    return blocks


def built_all(works, plans):
    """The works, each with all that its plan puts."""
    return [built(work, plan) for work, plan in zip(works, plans)]
