"""Where ways lead to, among places of any kind."""


def nexts_by(steps):
    """For each place the list of the places that steps (from, to) lead to from there."""
    nexts = {}
    for begin, to in steps:
        nexts.setdefault(begin, []).append(to)
    return nexts


def turned(steps):
    """The steps, each the other way about."""
    return [(to, begin) for begin, to in steps]


def led_to(starts, nexts):
    """The places that ways lead to from the starts, these too, as keys; nexts: the next places of each place."""
    seen = {}
    due = list(starts)
    while due:
        place = due.pop()
        if place not in seen:
            seen[place] = True
            due.extend(nexts.get(place, []))
    return seen


def shortest(starts, nexts, goals):
    """The places of a shortest path from a start to a goal, both of them too; None where there is none."""
    seen = {place: True for place in starts}
    paths = [[place] for place in starts]
    at = 0
    while at < len(paths):
        path = paths[at]
        if path[-1] in goals:
            return path
        for to in nexts.get(path[-1], []):
            if to not in seen:
                seen[to] = True
                paths.append(path + [to])
        at += 1
    return None
