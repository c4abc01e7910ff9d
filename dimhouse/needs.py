"""Which boxes a row reads and sets, and which are needed ahead of it."""

from dimhouse.flow import ways

# The kinds of rows that set the box that they name first.
SETTING = ("copy", "op", "load", "take", "hear")

# From where up to where the atoms of a row stand, by the row's kind; the other kinds have none.
ATOM_PLACES = {
    "copy": (2, 3),
    "op": (3, 5),
    "store": (2, 3),
    "take": (3, 4),
    "lay": (2, 4),
    "say": (1, 2),
    "if": (1, 2),
    "end": (1, 2),
}


def atoms(row):
    """The tuple of the row's atoms."""
    if row[0] not in ATOM_PLACES:
        return ()
    bounds = ATOM_PLACES[row[0]]
    return row[bounds[0]:bounds[1]]


def reads(row):
    """The list of the boxes that the row reads, each once, in the order of its atoms."""
    boxes = []
    for atom in atoms(row):
        if isinstance(atom, str) and atom not in boxes:
            boxes.append(atom)
    return boxes


def gives(row):
    """The box that the row sets, or None."""
    return row[1] if row[0] in SETTING else None


def needed_ahead(row, behind):
    """The sorted list of the boxes needed ahead of a row, `behind` telling those needed on each of its ways."""
    boxes = reads(row)
    for later in behind:
        boxes.extend([box for box in later if box != gives(row)])
    return sorted(set(boxes))


def needed(program):
    """A list with, for each row, the sorted list of the boxes needed ahead of it."""
    rows = program[2]
    onward = ways(program)
    found = [[] for row in rows]
    changed = True
    # A loop's rows need what the loop's later rows need, so once through is not enough.
    while changed:
        changed = False
        for number in range(len(rows) - 1, -1, -1):
            boxes = needed_ahead(rows[number], [found[way] for way in onward[number]])
            if boxes != found[number]:
                found[number] = boxes
                changed = True
    return found
