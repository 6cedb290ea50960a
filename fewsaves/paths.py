"""Where ways lead to, among places of any kind."""


def led_to(starts, nexts):
    """The places that ways lead to from the starts, these too, as keys; nexts: the next places of each place."""
    seen = {}
    due = list(starts)
    while due:
        place = due.pop()
        if place not in seen:
            seen[place] = True
            due.extend(nexts.get(place, []))
    return seen
