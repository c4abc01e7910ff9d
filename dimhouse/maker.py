"""Making cuttings that hold, with few keeping-places, and the breath of a cutting."""

from dimhouse.faults import holds
from dimhouse.flow import ways
from dimhouse.needs import needed
from dimhouse.spoils import FRESH, SPOILT, inner_ways, kept_rows, mark_behind, plain_names


def rows_led_back_to(program):
    """The list of the rows to which a way leads from the same or a later row."""
    found = []
    for number, onward in enumerate(ways(program)):
        found.extend([way for way in onward if way <= number])
    return found


def rows_by_kind(program):
    """The list of the rows that are ends, or stores or lays of what is no twin."""
    names = plain_names(program)
    found = []
    for number, row in enumerate(program[2]):
        if row[0] == "end" or (row[0] in ("store", "lay") and row[1] in names):
            found.append(number)
    return found


def all_places(program):
    """The cutting with all keeping-places of the program."""
    wanted = needed(program)
    places = sorted(set(rows_by_kind(program) + rows_led_back_to(program)))
    return (tuple(wanted[0]), tuple([(row, tuple(wanted[row])) for row in places]))


def without(code, row):
    """The cutting without the keeping-place of this row."""
    return (code[0], tuple([keep for keep in code[1] if keep[0] != row]))


def gone_through(program, code):
    """What is left of a cutting that holds behind one going-through from its first keeping-place on."""
    left = code
    for row in kept_rows(code):
        thinner = without(left, row)
        if holds(program, thinner):
            left = thinner
    return left


def thinned(program, code):
    """The thinned cutting of one that holds; one that does not is told as it stands."""
    if not holds(program, code):
        return code
    left = gone_through(program, code)
    # What was left out may let an earlier keeping-place be left out, too.
    while left != code:
        code = left
        left = gone_through(program, code)
    return left


def make(program):
    """The cutting that is made of the program."""
    return thinned(program, all_places(program))


def reach(program, first):
    """The last row to which the stretch from the first one is good, of a program without go and if."""
    rows = program[2]
    marks = dict([(name, FRESH) for name in plain_names(program)])
    for number in range(first, len(rows)):
        for name in list(marks):
            marks[name] = mark_behind(marks[name], rows[number], name)
            if marks[name] == SPOILT:
                return number
    return len(rows) - 1


def fewest(program):
    """The pair (rows, labels) of the fewest keeping-places of a program without go and if."""
    count = len(program[2])
    reached = [reach(program, row) for row in range(count)]
    labels = [0]
    ahead = [0]
    for row in range(1, count):
        best = min([(labels[first], first) for first in range(row) if reached[first] >= row])
        labels.append(best[0] + 1)
        ahead.append(best[1])
    rows = [count - 1]
    while ahead[rows[0]] > 0:
        rows.insert(0, ahead[rows[0]])
    return (rows, labels)


def twins_places(program):
    """How many places the twins have, a cell being one place."""
    return len([head for head in program[0] if head[2]]) + sum([head[1] for head in program[1] if head[2]])


def longest_piece(program, code):
    """The most rows of a piece's way of which the last leads to a keeping-place's row, or is an end."""
    inner = inner_ways(program, code)
    longest = [1 for row in inner]
    # Without a ring no way within a piece has more rows than the program, so this many times are enough.
    for turn in range(len(inner)):
        for row in range(len(inner) - 1, -1, -1):
            longest[row] = 1 + max([longest[way] for way in inner[row]], default=0)
    return max([longest[row] for row in [0] + kept_rows(code)])


def breath(program, code):
    """The breath of a cutting that holds."""
    most_boxes = max([len(code[0])] + [len(keep[1]) for keep in code[1]])
    return 2 * twins_places(program) + most_boxes + longest_piece(program, code) + 3
