"""The hand, which gets the letters that a house sends."""


class Hand:
    """Keeps the letters by their numbers, none when it is made."""

    def __init__(self):
        self.first = {}
        self.unlike = False

    def take(self, number, value):
        """Takes a letter by its number; one that is unlike the first by this number tears the hand."""
        if number not in self.first:
            self.first[number] = value
        elif self.first[number] != value:
            self.unlike = True

    def kept(self):
        """A list of the letters by the numbers 0, 1 and so on, up to the first that lacks."""
        found = []
        while len(found) in self.first:
            found.append(self.first[len(found)])
        return found

    def torn(self):
        """Whether an unlike letter has ever come by a number that was there already."""
        return self.unlike
