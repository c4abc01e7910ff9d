"""The plain run of a program, in which the current never fails."""

from dimhouse.flow import value, ways


class Plain:
    """A plain run, at its begin when it is made."""

    def __init__(self, program, letters):
        self.rows = program[2]
        self.onward = ways(program)
        self.incoming = list(letters)
        self.outgoing = []
        self.boxes = {}
        self.cells = dict([(head[0], head[1]) for head in program[0]])
        self.shelves = dict([(head[0], [0] * head[1]) for head in program[1]])
        self.place = 0
        self.hears = 0
        self.done = 0
        self.result = None

    def step(self):
        """Does the row at which the run stands and goes on by its way; nothing where the run has ended."""
        if self.ended():
            return
        row = self.rows[self.place]
        self.done += 1
        if row[0] == "end":
            self.result = self.worth(row[1])
        else:
            self.do_row(row)
            self.place = self.place_behind(row)

    def worth(self, atom):
        """The value that the atom has now."""
        return self.box(atom) if isinstance(atom, str) else atom

    def do_row(self, row):
        """Does what a row that is no end changes, but for where the run stands."""
        if row[0] == "store":
            self.cells[row[1]] = self.worth(row[2])
        elif row[0] == "lay":
            places = self.shelves[row[1]]
            places[self.worth(row[2]) % len(places)] = self.worth(row[3])
        elif row[0] == "say":
            self.outgoing.append(self.worth(row[1]))
        elif row[0] != "if" and row[0] != "go":
            self.boxes[row[1]] = self.set_by(row)

    def set_by(self, row):
        """The value that the box of a copy, op, load, take or hear becomes."""
        if row[0] == "copy":
            return self.worth(row[2])
        if row[0] == "op":
            return value(row[2], self.worth(row[3]), self.worth(row[4]))
        if row[0] == "load":
            return self.cells[row[2]]
        if row[0] == "take":
            places = self.shelves[row[2]]
            return places[self.worth(row[3]) % len(places)]
        return self.next_letter()

    def next_letter(self):
        """The next letter that comes in, which counts as heard from then on, also where there are no more."""
        number = self.hears
        self.hears += 1
        return self.incoming[number] if number < len(self.incoming) else 0

    def place_behind(self, row):
        """The row to which the row at which the run stands leads now."""
        onward = self.onward[self.place]
        if row[0] == "if" and self.worth(row[1]) == 0:
            return onward[1]
        return onward[0]

    def stands(self):
        """The number of the row at which the run stands, the end's where it has ended."""
        return self.place

    def ended(self):
        """Whether the run has ended."""
        return self.result is not None

    def answer(self):
        """The answer, or None ahead of the end."""
        return self.result

    def box(self, name):
        """What is in the box of this name."""
        return self.boxes.get(name, 0)

    def cell(self, name):
        """What is in the cell of this name."""
        return self.cells[name]

    def shelf(self, name):
        """A list of what lies at the places of the shelf of this name."""
        return list(self.shelves[name])

    def sent(self):
        """A list of the letters that were sent."""
        return list(self.outgoing)

    def heard(self):
        """How many hears were done."""
        return self.hears

    def count(self):
        """How many rows were done."""
        return self.done
