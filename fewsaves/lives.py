"""Lives: which boxes plain works ask, and in which of its blocks a work keeps a box busy."""

from fewsaves.paths import led_to
from fewsaves.works import BOXES, WRITING, nexts_of

READING = ("add", "tell")


def writes_box(deed, box):
    """Whether the deed writes the box."""
    return deed[0] in WRITING and deed[1] == box


def reads_box(deed, box):
    """Whether the deed reads the box: an add reads both of its boxes."""
    return deed[0] in READING and box in deed[1:]


def till_write(deeds, box):
    """The deeds up to the first that writes the box; that one too, since an add reads ahead of writing."""
    for at, deed in enumerate(deeds):
        if writes_box(deed, box):
            return deeds[:at + 1]
    return list(deeds)


def writers(work, box):
    """The rising list of the blocks that write the box."""
    return [at for at, (deeds, end) in enumerate(work) if any([writes_box(deed, box) for deed in deeds])]


def begins_met(works, number, at, box):
    """The places (work, block) whose begin is come to from the begin of this one, the box unwritten till then."""
    deeds, end = works[number][at]
    # A write by a called work is no write here: only the work's own writes keep a read off.
    met = [(deed[1], 0) for deed in till_write(deeds, box) if deed[0] == "call"]
    if not any([writes_box(deed, box) for deed in deeds]):
        met.extend([(number, to) for to in end[1:]])
    return met


def awaiting(works, box):
    """The places (work, block) of all works that await the box, as keys."""
    readers = []
    behind = {}
    for number, work in enumerate(works):
        for at, (deeds, end) in enumerate(work):
            if any([reads_box(deed, box) for deed in till_write(deeds, box)]):
                readers.append((number, at))
            for place in begins_met(works, number, at, box):
                behind.setdefault(place, []).append((number, at))
    # Only what a read is met from gets in, so that rings of calls without a read stay out.
    return led_to(readers, behind)


def asks(works):
    """For each work the rising list of the boxes that it asks."""
    waiting = [awaiting(works, box) for box in range(BOXES)]
    return [[box for box in range(BOXES) if (number, 0) in waiting[box]] for number in range(len(works))]


def reached(works, number, box):
    """The rising list of the work's blocks that a way leads to from behind a block that writes the box."""
    nexts = nexts_of(works[number])
    starts = [to for at in writers(works[number], box) for to in nexts[at]]
    return sorted(led_to(starts, nexts))


def awaited(works, number, box):
    """The rising list of the work's blocks from whose begin the box may be read with no write ahead."""
    waiting = awaiting(works, box)
    return [at for at in range(len(works[number])) if (number, at) in waiting]


def busy(works, number, box):
    """The rising list of the work's blocks that write the box, or are both reached and awaited."""
    waited = awaited(works, number, box)
    between = [at for at in reached(works, number, box) if at in waited]
    return sorted(set(writers(works[number], box)) | set(between))
