"""The desk: from the text of a program to the text of its cutting, or of how a house plays it."""

from dimhouse.house import House, drive
from dimhouse.looker import look
from dimhouse.maker import breath, make
from dimhouse.texts import read


def ordered(text):
    """The program that the text tells, refused where it is not in order."""
    program = read(text)
    look(program)
    return program


def line_with(words, parts):
    """The row of a text with these words and, behind them, the parts, which are names or values."""
    return " ".join(words + [str(part) for part in parts])


def cut(text):
    """The text of the cutting that is made of the program, and of its breath."""
    program = ordered(text)
    code = make(program)
    lines = [line_with(["begin"], code[0])]
    for row, boxes in code[1]:
        lines.append(line_with(["keep", str(row)], boxes))
    lines.append(line_with(["breath"], [breath(program, code)]))
    return "\n".join(lines)


def play(text, letters, failings, most=1000):
    """The text of what a house makes of the program with these letters and failings, in `most` steps at the most."""
    program = ordered(text)
    house = House(program, make(program), letters)
    drive(house, failings, most)
    lines = [line_with(["answer"], [house.answer()]) if house.rests() else "none"]
    lines.append(line_with(["sent"], house.letters()))
    for head in program[0]:
        lines.append(line_with(["cell", head[0]], [house.cell(head[0])]))
    for head in program[1]:
        lines.append(line_with(["shelf", head[0]], house.shelf(head[0])))
    return "\n".join(lines)
