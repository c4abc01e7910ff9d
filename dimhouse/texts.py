"""Programs as texts: reading them and writing them."""

from dimhouse.errors import BadLine, NoLabel, Twice
from dimhouse.words import atom_of, is_label, is_name, value_of

SIGNS = ("+", "-", "*", "<", "=", "&", "|", "^")

# The words that begin a row for a cell or a shelf, first of a plain one, then of a twin.
CELLS = ("cell", "twin")
SHELVES = ("shelf", "twins")
HEADS = ("cell", "twin", "shelf", "twins")

# The kinds of rows that have the number of a row, or its label, as their last part.
LEADING = ("if", "go")

MOST_OF_SIZE = 8

# What must stand behind the first word of a row; copy and op have no such word.
WANTED = {
    "cell": ("name", "value"),
    "twin": ("name", "value"),
    "shelf": ("name", "size"),
    "twins": ("name", "size"),
    "at": ("label",),
    "load": ("name", "name"),
    "store": ("name", "atom"),
    "take": ("name", "name", "atom"),
    "lay": ("name", "atom", "atom"),
    "hear": ("name",),
    "say": ("atom",),
    "if": ("atom", "label"),
    "go": ("label",),
    "end": ("atom",),
}


def size_of(word):
    """The size of a shelf that the word writes, or None."""
    size = value_of(word)
    return size if size is not None and 1 <= size <= MOST_OF_SIZE else None


def part_of(want, word):
    """What the word writes where `want` is wanted, or None."""
    if want == "atom":
        return atom_of(word)
    if want == "value":
        return value_of(word)
    if want == "size":
        return size_of(word)
    if want == "name":
        fits = is_name(word)
    elif want == "label":
        fits = is_label(word)
    else:
        fits = word in SIGNS
    return word if fits else None


def filled(kind, wants, words):
    """A tuple of the kind and what the words write, or None where they don't fit the wants."""
    if len(words) != len(wants):
        return None
    parts = [part_of(want, word) for want, word in zip(wants, words)]
    return None if None in parts else tuple([kind] + parts)


def setting_of(words):
    """The copy or op that the words write, the second of them being `=`, or None."""
    if len(words) == 3:
        return filled("copy", ("name", "atom"), [words[0], words[2]])
    if len(words) == 5:
        return filled("op", ("name", "sign", "atom", "atom"), [words[0], words[3], words[2], words[4]])
    return None


def line_of(line):
    """A row of a text as a tuple of its kind and its parts, labels as they stand, or None."""
    words = line.split(" ")
    # First, since names like `load` and `at` may stand ahead of the `=`.
    if len(words) > 1 and words[1] == "=":
        return setting_of(words)
    if words[0] not in WANTED:
        return None
    return filled(words[0], WANTED[words[0]], words[1:])


def lines_of(text):
    """All rows of the text as line_of tells them; refuses the first that is none at its place."""
    lines = []
    only_heads = True
    for number, row in enumerate(text.split("\n")):
        line = line_of(row)
        if line is None or (line[0] in HEADS and not only_heads):
            raise BadLine(number)
        only_heads = line[0] in HEADS
        lines.append(line)
    return lines


def refuse_twice(words):
    """Refuses the first of the words that stands for a second time."""
    seen = {}
    for word in words:
        if word in seen:
            raise Twice(word)
        seen[word] = True


def label_places(lines):
    """A dict from each label to the number of the row that has it."""
    places = {}
    count = 0
    for line in lines:
        if line[0] == "at":
            places[line[1]] = count
        elif line[0] not in HEADS:
            count += 1
    return places


def with_number(row, places):
    """The row with the number of a row in the place of its label, if it has one."""
    if row[0] not in LEADING:
        return row
    label = row[-1]
    if label not in places:
        raise NoLabel(label)
    return row[:-1] + (places[label],)


def heads_read(lines, words):
    """The cells, or the shelves, of a program, whose rows begin with one of the two words."""
    return tuple([(line[1], line[2], line[0] == words[1]) for line in lines if line[0] in words])


def read(text):
    """The program that the text tells."""
    lines = lines_of(text)
    # All names stand ahead of all labels, so this goes by the text's rows.
    refuse_twice([line[1] for line in lines if line[0] in HEADS])
    refuse_twice([line[1] for line in lines if line[0] == "at"])
    places = label_places(lines)
    rows = [with_number(line, places) for line in lines if line[0] not in HEADS and line[0] != "at"]
    return (heads_read(lines, CELLS), heads_read(lines, SHELVES), tuple(rows))


def label_of(number):
    """The label that a row of this number is written with."""
    return f"r{number}"


def words_of(row):
    """The list of the words by which the row is written."""
    parts = [str(part) for part in row[1:]]
    if row[0] == "copy":
        return [parts[0], "=", parts[1]]
    if row[0] == "op":
        return [parts[0], "=", parts[2], parts[1], parts[3]]
    if row[0] in LEADING:
        return [row[0]] + parts[:-1] + [label_of(row[-1])]
    return [row[0]] + parts


def heads_written(heads, words):
    """The rows of a text for cells, or for shelves, with the word for a plain one and for a twin."""
    return [" ".join([words[1] if head[2] else words[0], head[0], str(head[1])]) for head in heads]


def write(program):
    """The text that tells the program."""
    rows = program[2]
    led_to = [row[-1] for row in rows if row[0] in LEADING]
    lines = heads_written(program[0], CELLS) + heads_written(program[1], SHELVES)
    # One number more than there are rows, for a label at the end.
    for number in range(len(rows) + 1):
        if number in led_to:
            lines.append(" ".join(["at", label_of(number)]))
        if number < len(rows):
            lines.append(" ".join(words_of(rows[number])))
    return "\n".join(lines)
