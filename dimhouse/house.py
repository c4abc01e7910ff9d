"""The house: a machine that does a program by its cutting while its current may fail at any step."""

from dimhouse.flow import value, ways
from dimhouse.hand import Hand
from dimhouse.phases import Lost, coming_up, do_small, writing_down
from dimhouse.store import Store


class House:
    """A house, about to come up at the begin when it is made."""

    def __init__(self, program, code, letters):
        self.rows = program[2]
        self.onward = ways(program)
        self.sizes = dict([(head[0], head[1]) for head in program[1]])
        self.twins = [head[0] for head in program[0] + program[1] if head[2]]
        self.keeps = dict(code[1])
        self.incoming = list(letters)
        self.store = Store(program, code[0])
        self.hand = Hand()
        self.dust = 0
        self.lost = None
        # The small steps that are still to be done ahead of the next row.
        self.plan = coming_up(self.page(self.face()))

    def step(self):
        """Does one small step of coming up or writing down, or one row; nothing where the house rests."""
        if self.rests():
            return
        if len(self.plan) > 0:
            self.small_step()
        else:
            self.row_step()

    def fail(self, dust):
        """Lets the current fail, with this dust; a house that rests still rests."""
        if self.rests():
            return
        self.lost = None
        self.dust = dust
        self.plan = coming_up(self.page(self.face()))

    def small_step(self):
        """Does the next small step."""
        small = self.plan.pop(0)
        if small[0] == "wake":
            self.lost = Lost(self.page(self.face()), self.dust)
        else:
            do_small(self.store, small)
        # By its last step all that was logged has come home.
        if len(self.plan) == 0:
            self.lost.log.clear()

    def row_step(self):
        """Does the row at which the house stands and goes on by its way, to write down at a keeping-place's row."""
        lost = self.lost
        row = self.rows[lost.place]
        lost.done += 1
        if row[0] == "end":
            self.store.give(lost.worth(row[1]))
            return
        self.do_row(row)
        lost.place = self.place_behind(row)
        if lost.place in self.keeps:
            self.plan = writing_down(lost, self.keeps[lost.place])

    def do_row(self, row):
        """Does what a row that is no end changes, but for where the house stands."""
        lost = self.lost
        if row[0] == "store":
            self.write_at(row[1], 0, lost.worth(row[2]))
        elif row[0] == "lay":
            self.write_at(row[1], self.place_on(row[1], row[2]), lost.worth(row[3]))
        elif row[0] == "say":
            self.hand.take(lost.says, lost.worth(row[1]))
            lost.says += 1
        elif row[0] != "if" and row[0] != "go":
            lost.boxes[row[1]] = self.set_by(row)

    def set_by(self, row):
        """The value that the box of a copy, op, load, take or hear becomes."""
        lost = self.lost
        if row[0] == "copy":
            return lost.worth(row[2])
        if row[0] == "op":
            return value(row[2], lost.worth(row[3]), lost.worth(row[4]))
        if row[0] == "load":
            return self.value_at(row[2], 0)
        if row[0] == "take":
            return self.value_at(row[2], self.place_on(row[2], row[3]))
        return self.next_letter()

    def place_on(self, name, atom):
        """The place on the shelf of this name that the atom tells."""
        return self.lost.worth(atom) % self.sizes[name]

    def value_at(self, name, place):
        """What a row reads at the place: what the log has for it, and home's only where it has none."""
        if (name, place) in self.lost.log:
            return self.lost.log[(name, place)]
        return self.store.get_home(name, place)

    def write_at(self, name, place, written):
        """Writes at the place as a row does: of a twin into the log, else at home."""
        if name in self.twins:
            self.lost.log[(name, place)] = written
        else:
            self.store.put(name, place, written)

    def next_letter(self):
        """The next letter that comes in, which counts as heard from then on, also where there are no more."""
        lost = self.lost
        number = lost.hears
        lost.hears += 1
        return self.incoming[number] if number < len(self.incoming) else 0

    def place_behind(self, row):
        """The row to which the row at which the house stands leads now."""
        lost = self.lost
        onward = self.onward[lost.place]
        if row[0] == "if" and lost.worth(row[1]) == 0:
            return onward[1]
        return onward[0]

    def rests(self):
        """Whether the house has an answer."""
        return self.answer() is not None

    def answer(self):
        """The answer, or None ahead of it."""
        return self.store.answer()

    def cell(self, name):
        """What home has in the cell of this name."""
        return self.store.cell(name)

    def shelf(self, name):
        """A list of what home has at the places of the shelf of this name."""
        return self.store.shelf(name)

    def letters(self):
        """A list of the letters that the hand has."""
        return self.hand.kept()

    def torn(self):
        """Whether the hand is torn."""
        return self.hand.torn()

    def stands(self):
        """The number of the row that the next step does, or None where it does none."""
        return None if self.rests() or len(self.plan) > 0 else self.lost.place

    def box(self, name):
        """What is in the box of this name where the house stands at a row, else 0."""
        return 0 if self.stands() is None else self.lost.worth(name)

    def count(self):
        """How many rows were done on the way, where the house stands at a row, else the page's that counts."""
        return self.page(self.face())[1] if self.stands() is None else self.lost.done

    def face(self):
        """The number of the page that counts."""
        return self.store.face()

    def page(self, number):
        """The page of this number, as the store tells it."""
        return self.store.page(number)


def walked(house, steps):
    """Lets the house do so many steps, or fewer where it rests ahead of that, and tells how many it did."""
    done = 0
    while done < steps and not house.rests():
        house.step()
        done += 1
    return done


def drive(house, failings, most=1000):
    """Drives the house through the failings and on to its rest, or by `most` steps; tells how many did something."""
    asked = 0
    done = 0
    for steps, dust in failings:
        if asked + steps > most:
            return done + walked(house, most - asked)
        done += walked(house, steps)
        # Steps that a house that rests did not do were asked of it all the same.
        asked += steps
        house.fail(dust)
    return done + walked(house, most - asked)
