"""Where rows lead, and what the signs make of two values."""

from dimhouse.words import WIDE


def ways_of(number, row):
    """The ways of a row, which has this number."""
    if row[0] == "go":
        return (row[1],)
    if row[0] == "if":
        return (row[2], number + 1)
    if row[0] == "end":
        return ()
    return (number + 1,)


def ways(program):
    """A list with the ways of each row of the program."""
    return [ways_of(number, row) for number, row in enumerate(program[2])]


def number_of(sign, one, other):
    """What the sign makes of two values, which may lie beyond the values."""
    if sign == "+":
        return one + other
    if sign == "-":
        return one - other
    if sign == "*":
        return one * other
    if sign == "<":
        return 1 if one < other else 0
    if sign == "=":
        return 1 if one == other else 0
    if sign == "&":
        return one & other
    if sign == "|":
        return one | other
    return one ^ other


def value(sign, one, other):
    """The value of the sign and two values."""
    return number_of(sign, one, other) % WIDE
