"""What a house needs for itself: what it loses at a failing, and the small steps of coming up and of writing down.

A small step is a tuple that begins with its kind: ("put", name, place, value), by which home gets a value; ("begin",
row, count, heard, sent), ("box", name, value) and ("log", name, place, value), by which a page is written; ("turn",),
by which the face is turned; and ("wake",), the last one of coming up, which changes nothing of what stays.
"""


class Lost:
    """Where a house stands, its counts, boxes and log, as they are when it has come up from a page."""

    def __init__(self, page, dust):
        self.place = page[0]
        self.done = page[1]
        self.hears = page[2]
        self.says = page[3]
        self.boxes = dict(page[4])
        self.dust = dust
        self.log = {}

    def worth(self, atom):
        """The value that the atom has now, which is the dust of a box in which nothing was put."""
        return self.boxes.get(atom, self.dust) if isinstance(atom, str) else atom


def named(kind, turns):
    """A small step of this kind for each of the turns."""
    return [(kind, pair[0], pair[1], value) for pair, value in turns]


def coming_up(page):
    """The list of the small steps by which a house comes up from the page."""
    return named("put", page[5]) + [("wake",)]


def writing_down(lost, boxes):
    """The list of the small steps by which a house writes down these boxes and its log where it stands."""
    begun = [("begin", lost.place, lost.done, lost.hears, lost.says)]
    kept = [("box", box, lost.worth(box)) for box in boxes]
    turns = list(lost.log.items())
    return begun + kept + named("log", turns) + [("turn",)] + named("put", turns)


def do_small(store, small):
    """Does the small step on what stays."""
    if small[0] == "put":
        store.put(small[1], small[2], small[3])
    elif small[0] == "begin":
        store.begin_page(small[1], small[2], small[3], small[4])
    elif small[0] == "box":
        store.keep_box(small[1], small[2])
    elif small[0] == "log":
        store.keep_turn(small[1], small[2], small[3])
    elif small[0] == "turn":
        store.turn()
