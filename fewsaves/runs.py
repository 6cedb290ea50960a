"""Runs: what plain works mean, and what any works do to boxes that all of their calls share."""

DEEPEST = 20


class Call:
    """One call of a work: the boxes it goes by, what they held as it began, and what it has laid aside."""

    def __init__(self, number, boxes):
        self.number = number
        self.boxes = boxes
        self.begun = list(boxes)
        self.aside = {}


class Running:
    """One run, and what all of its calls have done so far.

    A step, a deed, a block and a call tell None where the run goes on behind them, else the state in which it stops.
    """

    def __init__(self, works, boxes, choices, most, sharing):
        self.works = works
        self.boxes = list(boxes)
        self.choices = choices
        self.most = most
        self.sharing = sharing
        self.state = "ended"
        self.steps = 0
        self.forks = 0
        self.depth = 0
        self.told = []
        self.faults = []
        self.saves = 0
        self.backs = 0
        self.gone = {}

    def step(self):
        """Begins one more step."""
        if self.steps >= self.most:
            return "going"
        self.steps += 1
        return None

    def call(self, number, boxes):
        """Runs a work, called by whoever holds these boxes."""
        if self.depth == DEEPEST:
            return "deep"
        self.depth += 1
        stop = self.walk(Call(number, boxes if self.sharing else list(boxes)))
        self.depth -= 1
        return stop

    def walk(self, here):
        """Goes through the blocks of a call, from the door to a way out."""
        work = self.works[here.number]
        way = (-1, 0)
        while way[1] < len(work):
            stop = self.visit(here, way)
            if stop is not None:
                return stop
            way = (way[1], self.led_by(work[way[1]][1], len(work)))
        self.count_way(here, way)
        changed = [box for box, held in enumerate(here.begun) if here.boxes[box] != held]
        self.faults.extend([(here.number, box) for box in changed])
        return None

    def visit(self, here, way):
        """Comes to a block on a way, and does the block's deeds."""
        stop = self.step()
        if stop is not None:
            return stop
        self.count_way(here, way)
        for deed in self.works[here.number][way[1]][0]:
            stop = self.lay(here, deed) if deed[0] in ("save", "back") else self.act(here, deed)
            if stop is not None:
                return stop
        return None

    def count_way(self, here, way):
        """Counts a way of the call's work as gone once more."""
        key = (here.number, way)
        self.gone[key] = self.gone.get(key, 0) + 1

    def led_by(self, end, beyond):
        """The block that an end leads to, beyond where it leads out."""
        if end[0] == "out":
            return beyond
        if end[0] == "go" or self.next_choice() == 0:
            return end[1]
        return end[2]

    def next_choice(self):
        """The next choice, taken by whichever call forks; behind the last one all are 0."""
        self.forks += 1
        return self.choices[self.forks - 1] if self.forks <= len(self.choices) else 0

    def lay(self, here, deed):
        """Lays a box's number aside or brings it back, which is no step."""
        word, box = deed
        if word == "save":
            here.aside[box] = here.boxes[box]
            self.saves += 1
            return None
        if box not in here.aside:
            return "bare"
        here.boxes[box] = here.aside[box]
        self.backs += 1
        return None

    def act(self, here, deed):
        """Does a deed that is a step."""
        stop = self.step()
        if stop is not None:
            return stop
        word = deed[0]
        if word == "call":
            return self.call(deed[1], here.boxes)
        if word == "set":
            here.boxes[deed[1]] = deed[2]
        elif word == "add":
            here.boxes[deed[1]] += here.boxes[deed[2]]
        else:
            self.told.append(here.boxes[deed[1]])
        return None


def gone_through(works, number, boxes, choices, most, sharing):
    """The run, gone through to where it ends or stops; sharing: whether all calls have the same boxes."""
    running = Running(works, boxes, choices, most, sharing)
    stop = running.call(number, running.boxes)
    if stop is not None:
        running.state = stop
    return running


def meant(works, number, boxes, choices, most):
    """What plain works mean, each call having boxes of its own: (state, told)."""
    running = gone_through(works, number, boxes, choices, most, False)
    return (running.state, running.told)


def run(works, number, boxes, choices, most):
    """What works do to boxes that all calls share: (state, told, faults, boxes)."""
    running = gone_through(works, number, boxes, choices, most, True)
    return (running.state, running.told, running.faults, running.boxes)


def moves_done(works, number, boxes, choices, most):
    """How many saves and how many bringings back are done in that run, as a pair."""
    running = gone_through(works, number, boxes, choices, most, True)
    return (running.saves, running.backs)
