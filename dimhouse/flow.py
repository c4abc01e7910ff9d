"""Where rows lead, the shortest ways there, and what the signs make of two values."""

from dimhouse.words import WIDE


def ways_of(number, row):
    """The ways of a row, which has this number."""
    if row[0] == "go":
        return (row[1],)
    if row[0] == "if":
        return (row[2], number + 1)
    if row[0] == "end":
        return ()
    return (number + 1,)


def ways(program):
    """A list with the ways of each row of the program."""
    return [ways_of(number, row) for number, row in enumerate(program[2])]


def traced(came_from, last):
    """The list of places from a start to the last one, `came_from` telling the place ahead of each, None of a start."""
    places = []
    here = last
    while here is not None:
        places.append(here)
        here = came_from[here]
    return list(reversed(places))


def route(starts, behind, fits):
    """The list of places of a shortest way from one of the starts to a place that fits, or None.

    behind(place) is the list of places right behind one; fits(place) is whether a way may end there.
    """
    came_from = {}
    for start in starts:
        came_from[start] = None
    queue = list(came_from)
    looked = 0
    while looked < len(queue):
        here = queue[looked]
        looked += 1
        if fits(here):
            return traced(came_from, here)
        for there in behind(here):
            if there not in came_from:
                came_from[there] = here
                queue.append(there)
    return None


def number_of(sign, one, other):
    """What the sign makes of two values, which may lie beyond the values."""
    if sign == "+":
        return one + other
    if sign == "-":
        return one - other
    if sign == "*":
        return one * other
    if sign == "<":
        return 1 if one < other else 0
    if sign == "=":
        return 1 if one == other else 0
    if sign == "&":
        return one & other
    if sign == "|":
        return one | other
    return one ^ other


def value(sign, one, other):
    """The value of the sign and two values."""
    return number_of(sign, one, other) % WIDE
