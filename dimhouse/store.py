"""What stays through a failing: home, the two pages, the face and the answer."""


class Store:
    """What stays, as it is at first when it is made."""

    def __init__(self, program, begin):
        # A cell is kept like a shelf of one place.
        self.home = dict([(head[0], [head[1]]) for head in program[0]])
        self.home.update(dict([(head[0], [0] * head[1]) for head in program[1]]))
        self.heads = [(0, 0, 0, 0), (0, 0, 0, 0)]
        self.page_boxes = [[(box, 0) for box in begin], []]
        self.page_turns = [[], []]
        self.counting = 0
        self.result = None

    def cell(self, name):
        """What is in the cell of this name."""
        return self.home[name][0]

    def shelf(self, name):
        """A list of what lies at the places of the shelf of this name."""
        return list(self.home[name])

    def put(self, name, place, value):
        """Gives home the value, for a place of a shelf, or for a cell, whose place is 0."""
        self.home[name][place] = value

    def get_home(self, name, place):
        """What home has for a place of a shelf, or for a cell, whose place is 0."""
        return self.home[name][place]

    def face(self):
        """The number of the page that counts."""
        return self.counting

    def page(self, number):
        """The page of this number: its row, rows done, letters heard and sent, list of boxes, list of turns."""
        return self.heads[number] + (list(self.page_boxes[number]), list(self.page_turns[number]))

    def other(self):
        """The number of the page that doesn't count."""
        return 1 - self.counting

    def begin_page(self, row, count, heard, sent):
        """Begins the page that doesn't count anew."""
        self.heads[self.other()] = (row, count, heard, sent)
        self.page_boxes[self.other()] = []
        self.page_turns[self.other()] = []

    def keep_box(self, name, value):
        """Puts a box behind the boxes of the page that doesn't count."""
        self.page_boxes[self.other()].append((name, value))

    def keep_turn(self, name, place, value):
        """Puts a turn behind the turns of the page that doesn't count."""
        self.page_turns[self.other()].append(((name, place), value))

    def turn(self):
        """Turns the face to the other page."""
        self.counting = self.other()

    def answer(self):
        """The answer, or None ahead of it."""
        return self.result

    def give(self, value):
        """Makes the value the answer."""
        self.result = value
