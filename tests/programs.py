"""Programs and cuttings for the tests, and what holds of them, told another way than the program tells it."""

from dimhouse.texts import read
from dimhouse.words import WIDE

SIGNS = ("+", "-", "*", "<", "=", "&", "|", "^")
VALUES = (0, 0, 1, 1, 2, 3, 7, 8, 9, 255, 1000, WIDE // 2, WIDE - 2, WIDE - 1)
# Some of them are names of cells and shelves, too.
BOXES = ("a", "b", "x", "y", "c", "f", "if", "copy")

CELLS = (("c", 5, False), ("d", 0, True), ("m", WIDE - 1, False))
SHELVES = (("f", 3, False), ("g", 1, True), ("h", 8, False))

# One row of each of the eleven kinds; an if and a go lead to row 0.
KINDS = (
    ("copy", "x", "a"), ("op", "x", "+", "a", "b"), ("load", "x", "c"), ("store", "c", "a"), ("take", "x", "f", "a"),
    ("lay", "f", "a", "b"), ("hear", "x"), ("say", "a"), ("if", "a", 0), ("go", 0), ("end", "a"),
)


def program_of(*rows):
    """A program of these rows, with cells c, d, m and shelves f, g, h."""
    return (CELLS, SHELVES, rows)


def rows_of(text):
    """The program that the text tells, its rows parted by " / "."""
    return read(text.replace(" / ", "\n"))


def any_row(chance, count):
    """Any row of a program of so many rows."""
    box = chance.choice(BOXES)
    atom, other = (chance.choice(BOXES if chance.random() < 0.7 else VALUES) for turn in range(2))
    cell = chance.choice(CELLS)[0]
    shelf = chance.choice(SHELVES)[0]
    number = chance.randrange(count)
    return chance.choice((
        ("copy", box, atom), ("op", box, chance.choice(SIGNS), atom, other), ("load", box, cell), ("store", cell, atom),
        ("take", box, shelf, atom), ("lay", shelf, atom, other), ("hear", box), ("say", atom), ("if", atom, number),
        ("if", atom, number), ("go", number), ("end", atom),
    ))


def any_program(chance, most=12):
    """Any program in order of 1 to so many rows."""
    count = chance.randint(1, most)
    rows = [any_row(chance, count) for row in range(count - 1)]
    rows.append(chance.choice((("end", chance.choice(BOXES)), ("go", chance.randrange(count)))))
    return program_of(*rows)


def any_use(chance):
    """Any row that loads, stores, takes or lays."""
    box = chance.choice("xy")
    cell = chance.choice(CELLS)[0]
    shelf = chance.choice(SHELVES)[0]
    return chance.choice((
        ("load", box, cell), ("load", box, cell), ("store", cell, box), ("store", cell, 1), ("take", box, shelf, 0),
        ("take", box, shelf, box), ("lay", shelf, box, 1), ("lay", shelf, 2, box),
    ))


def any_busy_program(chance, most=12):
    """Any program in order of 1 to so many rows, most of which load, store, take or lay, and few of which lead back."""
    count = chance.randint(1, most)
    rows = []
    for number in range(count - 1):
        there = chance.randrange(number + 1, count) if chance.random() < 0.7 else chance.randrange(count)
        rows.append(chance.choice((any_use(chance),) * 7 + (("if", chance.choice("xy"), there),) * 2 + (any_row(chance, count),)))
    rows.append(chance.choice((("end", "x"), ("end", 0), ("go", chance.randrange(count)))))
    return program_of(*rows)


def any_straight_program(chance, most=12):
    """Any program in order of 1 to so many rows, without go and if, whose last row is its one end."""
    rows = [any_use(chance) for number in range(chance.randint(0, most - 1))]
    for number in range(len(rows)):
        if chance.random() < 0.2:
            rows[number] = chance.choice((("copy", "x", 1), ("op", "y", "+", "x", "a"), ("hear", "x"), ("say", "y")))
    return program_of(*rows, ("end", chance.choice(("x", 0))))


def any_looping_program(chance, most=8):
    """Any program that goes a few times through up to so many rows, which use cells, shelves and letters, and ends."""
    count = chance.randint(1, most)
    rows = [("copy", "times", chance.randint(1, 5))]
    for number in range(1, count + 1):
        box, other = chance.choice("xy"), chance.choice("xya")
        rows.append(chance.choice((any_use(chance),) * 6 + (
            ("if", box, chance.randint(number + 1, count + 1)), ("op", box, chance.choice(SIGNS), other, "x"),
            ("op", box, "+", other, 3), ("hear", box), ("say", other))))
    rows += [("op", "times", "-", "times", 1), ("if", "times", chance.randint(1, count)), ("end", chance.choice("xya"))]
    return program_of(*rows)


def any_twins(chance, program):
    """The program with any of its cells and shelves as twins."""
    share = chance.random()
    cells, shelves = (tuple((*head[:2], chance.random() < share) for head in heads) for heads in program[:2])
    return (cells, shelves, program[2])


def any_letters(chance, most=8):
    """Any letters that come in, up to so many."""
    return [chance.choice((0, 1, 2, 5, chance.randrange(WIDE))) for letter in range(chance.randint(0, most))]


def told(row):
    """A tuple of the atoms of the row and the box that it sets, or None."""
    match row:
        case ("copy", box, atom):
            return (atom,), box
        case ("op", box, sign, one, other):
            return (one, other), box
        case ("load", box, cell):
            return (), box
        case ("take", box, shelf, atom):
            return (atom,), box
        case ("hear", box):
            return (), box
        case ("store", cell, atom):
            return (atom,), None
        case ("lay", shelf, one, other):
            return (one, other), None
        case ("say", atom) | ("end", atom) | ("if", atom, _):
            return (atom,), None
        case ("go", _):
            return (), None


def led(number, row):
    """The list of the rows to which the row of this number leads."""
    match row:
        case ("end", _):
            return []
        case ("go", there):
            return [there]
        case ("if", _, there):
            return [there, number + 1]
    return [number + 1]


def reached(starts, onward):
    """The set of all that can be come to from the starts, themselves among them, by onward(one), which lists some."""
    found, left = set(), list(starts)
    while left:
        here = left.pop()
        if here not in found:
            found.add(here)
            left.extend(onward(here))
    return found


def needed_there(rows, number, box):
    """Whether some way on from the row reads the box ahead of setting it."""
    there = reached([number], lambda here: [] if told(rows[here])[1] == box else led(here, rows[here]))
    return any(box in told(rows[here])[0] for here in there)


def boxes_needed(rows, number):
    """The tuple of the boxes that are needed ahead of the row."""
    names = {atom for row in rows for atom in told(row)[0] if isinstance(atom, str)}
    return tuple(sorted(box for box in names if needed_there(rows, number, box)))


def cutting(*kept, begin=()):
    """A cutting with keeping-places at these rows, without boxes."""
    return (begin, tuple((row, ()) for row in kept))


def needing(program, *kept):
    """A cutting with keeping-places at these rows, each and the begin with the boxes needed there."""
    rows = program[2]
    return (boxes_needed(rows, 0), tuple((row, boxes_needed(rows, row)) for row in kept))


def led_back_to(rows):
    """The set of the rows to which a way leads from the same or a later row."""
    return {there for here, row in enumerate(rows) for there in led(here, row) if there <= here}


def any_boxes(chance, boxes, care):
    """These boxes, or, the less care is taken the more often, some fewer; and now and then some more."""
    left = {box for box in boxes if chance.random() < care}
    more = {name for name in BOXES + ("zz", "end") if chance.random() < 0.05}
    return tuple(sorted(left | more))


def any_cutting(chance, program):
    """Any cutting of the program, made with more or less care to let it hold."""
    rows = program[2]
    back = led_back_to(rows)
    ends_kept, back_kept, others_kept, care = (chance.choice(few) for few in (
        (0.5, 1, 1, 1), (0.3, 0.7, 1, 1), (0, 0.1, 0.3, 0.6), (0.7, 0.95, 1, 1)))
    kept = []
    for number, row in enumerate(rows):
        share = ends_kept if row[0] == "end" else back_kept if number in back else others_kept
        if chance.random() < share:
            kept.append(number)
    keeps = tuple((row, any_boxes(chance, boxes_needed(rows, row), care)) for row in kept)
    return (any_boxes(chance, boxes_needed(rows, 0), care), keeps)


def plain_heads(program):
    """The names of the cells and shelves that are no twins."""
    return [name for name, number, twin in program[0] + program[1] if not twin]


def is_way(program, rows):
    """Whether this is a list of rows, each come to from the one before by a way."""
    steps = zip(rows, rows[1:])
    return type(rows) is list and len(rows) > 0 and all(later in led(here, program[2][here]) for here, later in steps)


def is_piece_way(program, code, rows):
    """Whether this is a piece's way of the cutting."""
    kept = [row for row, boxes in code[1]]
    return is_way(program, rows) and rows[0] in [0] + kept and not any(row in kept for row in rows[1:])


def uses(row, kind, name):
    """Whether the row is of this kind, a load, store, take or lay, and of the cell or shelf of this name."""
    return row[0] == kind and row[2 if kind in ("load", "take") else 1] == name


def spoils(program, name, way):
    """Whether the rows of the way, from the first to the last, spoil the cell or shelf of this name."""
    rows = [program[2][number] for number in way]
    if name not in plain_heads(program):
        return False
    if name in [shelf[0] for shelf in program[1]]:
        return uses(rows[-1], "lay", name) and any(uses(row, "take", name) for row in rows[:-1])
    return uses(rows[-1], "store", name) and any(
        uses(row, "load", name) and not any(uses(earlier, "store", name) for earlier in rows[:place])
        for place, row in enumerate(rows[:-1]))


def can_spoil(program, code, name):
    """Whether some piece's way spoils the cell or shelf of this name: first the reading rows, then what is behind them."""
    rows = program[2]
    kept = [row for row, boxes in code[1]]

    def inner(here):
        return [there for there in led(here, rows[here]) if there not in kept]

    if name not in plain_heads(program):
        return False
    ahead = reached([0] + kept, lambda here: [] if uses(rows[here], "store", name) else inner(here))
    reading = [row for row in ahead if uses(rows[row], "load", name) or uses(rows[row], "take", name)]
    behind = reached([there for here in reading for there in inner(here)], inner)
    return any(uses(rows[row], "store", name) or uses(rows[row], "lay", name) for row in behind)


def in_ring(program, code, number):
    """Whether the row is in a ring without a keeping-place."""
    rows = program[2]
    kept = [row for row, boxes in code[1]]

    def inner(here):
        return [there for there in led(here, rows[here]) if there not in kept]

    return number not in kept and number in reached(inner(number), inner)


def faults_there(program, code):
    """The list of the kinds of faults that there are, in the order in which they are to be told."""
    rows = program[2]
    kept = [row for row, boxes in code[1]]
    starts = [(0, code[0])] + list(code[1])
    kinds = []
    if any(row[0] == "end" and number not in kept for number, row in enumerate(rows)):
        kinds.append("end")
    if any(in_ring(program, code, number) for number in range(len(rows))):
        kinds.append("ring")
    if any(can_spoil(program, code, name) for name in plain_heads(program)):
        kinds.append("spoil")
    if any(box not in boxes for number, boxes in starts for box in boxes_needed(rows, number)):
        kinds.append("lost")
    return kinds


def piece_ways(program, code):
    """Each piece's way of a cutting without rings, walked from each begin."""
    kept = [row for row, boxes in code[1]]
    left = [[row] for row in [0] + kept]
    while left:
        way = left.pop()
        yield way
        left.extend(way + [there] for there in led(way[-1], program[2][way[-1]]) if there not in kept)


def stepped(house, steps=1):
    """The house, behind so many steps."""
    for step in range(steps):
        house.step()
    return house


def stays(house, program):
    """All that a house tells of what a failing does not change."""
    cells = {name: house.cell(name) for name, start, twin in program[0]}
    shelves = {name: house.shelf(name) for name, size, twin in program[1]}
    return (cells, shelves, house.face(), house.page(0), house.page(1), house.rests(), house.answer(), house.letters(),
            house.torn())


def shown(house, program):
    """All that a house tells."""
    names = {name for row in program[2] for name in row if isinstance(name, str)} | {"zz"}
    boxes = {name: house.box(name) for name in sorted(names)}
    return stays(house, program), house.stands(), house.count(), boxes
