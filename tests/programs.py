"""Programs for the tests, and their rows told another way than the program tells them."""

from dimhouse.words import WIDE

SIGNS = ("+", "-", "*", "<", "=", "&", "|", "^")
VALUES = (0, 0, 1, 1, 2, 3, 7, 8, 9, 255, 1000, WIDE // 2, WIDE - 2, WIDE - 1)
# Some of them are names of cells and shelves, too.
BOXES = ("a", "b", "x", "y", "c", "f", "if", "copy")

CELLS = (("c", 5, False), ("d", 0, True), ("m", WIDE - 1, False))
SHELVES = (("f", 3, False), ("g", 1, True), ("h", 8, False))

# One row of each of the eleven kinds; an if and a go lead to row 0.
KINDS = (
    ("copy", "x", "a"), ("op", "x", "+", "a", "b"), ("load", "x", "c"), ("store", "c", "a"), ("take", "x", "f", "a"),
    ("lay", "f", "a", "b"), ("hear", "x"), ("say", "a"), ("if", "a", 0), ("go", 0), ("end", "a"),
)


def program_of(*rows):
    """A program of these rows, with cells c, d, m and shelves f, g, h."""
    return (CELLS, SHELVES, rows)


def any_row(chance, count):
    """Any row of a program of so many rows."""
    box = chance.choice(BOXES)
    atom, other = (chance.choice(BOXES if chance.random() < 0.7 else VALUES) for turn in range(2))
    cell = chance.choice(CELLS)[0]
    shelf = chance.choice(SHELVES)[0]
    number = chance.randrange(count)
    return chance.choice((
        ("copy", box, atom), ("op", box, chance.choice(SIGNS), atom, other), ("load", box, cell), ("store", cell, atom),
        ("take", box, shelf, atom), ("lay", shelf, atom, other), ("hear", box), ("say", atom), ("if", atom, number),
        ("if", atom, number), ("go", number), ("end", atom),
    ))


def any_program(chance, most=12):
    """Any program in order of 1 to so many rows."""
    count = chance.randint(1, most)
    rows = [any_row(chance, count) for row in range(count - 1)]
    rows.append(chance.choice((("end", chance.choice(BOXES)), ("go", chance.randrange(count)))))
    return program_of(*rows)


def told(row):
    """A tuple of the atoms of the row and the box that it sets, or None."""
    match row:
        case ("copy", box, atom):
            return (atom,), box
        case ("op", box, sign, one, other):
            return (one, other), box
        case ("load", box, cell):
            return (), box
        case ("take", box, shelf, atom):
            return (atom,), box
        case ("hear", box):
            return (), box
        case ("store", cell, atom):
            return (atom,), None
        case ("lay", shelf, one, other):
            return (one, other), None
        case ("say", atom) | ("end", atom) | ("if", atom, _):
            return (atom,), None
        case ("go", _):
            return (), None


def led(number, row):
    """The list of the rows to which the row of this number leads."""
    match row:
        case ("end", _):
            return []
        case ("go", there):
            return [there]
        case ("if", _, there):
            return [there, number + 1]
    return [number + 1]
