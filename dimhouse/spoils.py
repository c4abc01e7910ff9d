"""The pieces of a cutting, and the cells and shelves that doing one of them once more would spoil."""

from dimhouse.flow import route, ways

# What the rows of a piece so far have done with a cell or a shelf: nothing that matters; a load or a take of what lay
# there ahead of the piece; a store ahead of any load (of a cell, whose loads get the piece's own value from then on);
# a store or a lay behind such a load or take.
FRESH = "fresh"
SEEN = "seen"
SAFE = "safe"
SPOILT = "spoilt"


def plain_names(program):
    """The list of the names of the cells and shelves that are no twins."""
    return [head[0] for head in program[0] + program[1] if not head[2]]


def kept_rows(code):
    """The rising list of the keeping-places' rows."""
    return [keep[0] for keep in code[1]]


def inner_ways(program, code):
    """A list with, for each row, the list of its ways that lead to no keeping-place's row."""
    kept = kept_rows(code)
    return [[way for way in onward if way not in kept] for onward in ways(program)]


def mark_behind(mark, row, name):
    """What is done with the cell or shelf of this name behind a row, `mark` telling what is ahead of it."""
    if mark == FRESH and row[0] in ("load", "take") and row[2] == name:
        return SEEN
    # A lay makes nothing safe: the take behind it may be from another place.
    if mark == FRESH and row[0] == "store" and row[1] == name:
        return SAFE
    if mark == SEEN and row[0] in ("store", "lay") and row[1] == name:
        return SPOILT
    return mark


def spoilt(program, code, name):
    """A list of rows, a piece's way that spoils the cell or shelf of this name, or None."""
    if name not in plain_names(program):
        return None
    rows = program[2]
    inner = inner_ways(program, code)

    def behind(place):
        mark = mark_behind(place[1], rows[place[0]], name)
        return [] if mark == SAFE else [(way, mark) for way in inner[place[0]]]

    def spoils(place):
        return mark_behind(place[1], rows[place[0]], name) == SPOILT

    found = route([(row, FRESH) for row in [0] + kept_rows(code)], behind, spoils)
    return None if found is None else [place[0] for place in found]
