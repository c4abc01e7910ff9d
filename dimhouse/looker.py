"""Whether a program is in order."""

from dimhouse.errors import Falls, Unknown
from dimhouse.flow import ways

# Where a row names a cell, or a shelf, by the row's kind.
CELL_PLACES = {"load": 2, "store": 1}
SHELF_PLACES = {"take": 2, "lay": 1}


def unknown_word(row, cells, shelves):
    """What the row names as a cell or a shelf though it is none, or None."""
    if row[0] in CELL_PLACES:
        word = row[CELL_PLACES[row[0]]]
        return None if word in cells else word
    if row[0] in SHELF_PLACES:
        word = row[SHELF_PLACES[row[0]]]
        return None if word in shelves else word
    return None


def refuse_unknown(program):
    """Refuses the first row that names what is no cell, or no shelf."""
    cells = [head[0] for head in program[0]]
    shelves = [head[0] for head in program[1]]
    for number, row in enumerate(program[2]):
        word = unknown_word(row, cells, shelves)
        if word is not None:
            raise Unknown(word, number)


def refuse_falls(program):
    """Refuses a program without rows, and the first row of which a way leads to no row."""
    count = len(program[2])
    if count == 0:
        raise Falls(0)
    for number, onward in enumerate(ways(program)):
        if any([way >= count for way in onward]):
            raise Falls(number)


def look(program):
    """True of a program that is in order; others are refused."""
    refuse_unknown(program)
    refuse_falls(program)
    return True
