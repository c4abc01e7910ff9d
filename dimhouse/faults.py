"""Whether a cutting holds, and what shows that one does not."""

from dimhouse.flow import route, ways
from dimhouse.needs import gives, needed, reads
from dimhouse.spoils import kept_rows, plain_names, spoilt


def end_fault(program, code):
    """The fault of a row end that is no keeping-place's, or None."""
    kept = kept_rows(code)
    for number, row in enumerate(program[2]):
        if row[0] == "end" and number not in kept:
            return ("end", number)
    return None


def endless_rows(onward, rows):
    """The list of those of the rows from which one can go on for ever through these rows alone."""
    left = rows
    fewer = True
    while fewer:
        staying = [row for row in left if any([way in left for way in onward[row]])]
        fewer = len(staying) < len(left)
        left = staying
    return left


def ring_fault(program, code):
    """The fault of a ring without a keeping-place, or None."""
    kept = kept_rows(code)
    onward = ways(program)
    endless = endless_rows(onward, [row for row in range(len(onward)) if row not in kept])
    if len(endless) == 0:
        return None
    walked = []
    here = endless[0]
    while here not in walked:
        walked.append(here)
        here = [way for way in onward[here] if way in endless][0]
    # The first rows may only lead into the ring.
    return ("ring", walked[walked.index(here):])


def spoil_fault(program, code):
    """The fault of a cell or shelf that a piece's way spoils, or None."""
    for name in plain_names(program):
        rows = spoilt(program, code, name)
        if rows is not None:
            return ("spoil", name, rows)
    return None


def way_to_reading(program, start, box):
    """The list of rows of a way from the start to a row that reads the box, none ahead of which sets it, or None."""
    rows = program[2]
    onward = ways(program)

    def behind(row):
        return [] if gives(rows[row]) == box else onward[row]

    def fits(row):
        return box in reads(rows[row])

    return route([start], behind, fits)


def lost_fault(program, code):
    """The fault of a box that is needed at the begin, or at a keeping-place, and not kept there, or None."""
    wanted = needed(program)
    places = [(0, code[0], True)] + [(keep[0], keep[1], False) for keep in code[1]]
    for start, boxes, begin in places:
        for box in wanted[start]:
            if box not in boxes:
                return ("lost", box, way_to_reading(program, start, box), begin)
    return None


def fault(program, code):
    """What shows that the cutting does not hold, as a tuple that begins with its kind, or None where it holds."""
    found = end_fault(program, code)
    if found is None:
        found = ring_fault(program, code)
    if found is None:
        found = spoil_fault(program, code)
    if found is None:
        found = lost_fault(program, code)
    return found


def holds(program, code):
    """Whether the cutting holds."""
    return fault(program, code) is None
