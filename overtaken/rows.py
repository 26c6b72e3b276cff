"""Rows of letters that are thought out letter by letter, and the weavings that are told from them."""

from overtaken.lines import FIRST, letters_of


class Row:
    """A row of letters; further ones are put between them. Each is called by a number that does not change."""

    def __init__(self):
        self.kinds = ["ask"]
        self.stretches = [[0]]

    def new_letter(self, kind):
        """A letter that is in no stretch yet."""
        self.kinds.append(kind)
        return len(self.kinds) - 1

    def stretch_of(self, letter):
        """The index of the stretch in which a letter is."""
        return [letter in stretch for stretch in self.stretches].index(True)

    def stretch_for(self, letter, known):
        """The stretch of a letter of a line; known tells how those with marks are called here."""
        number, _, begin, _, _ = letter
        mates = [known[other] for other in known if other[0] == number]
        if mates:
            return self.stretches[self.stretch_of(mates[0])]
        if begin == FIRST:
            return self.stretches[0]
        behind = [self.stretch_of(known[other]) for other in known if other[0] > number]
        stretch = [self.new_letter(begin)]
        self.stretches.insert(min(behind, default=len(self.stretches)), stretch)
        return stretch

    def name_of(self, letter, known):
        """How a letter of a line is called here; it is put into the row if it is not there."""
        if letter in known:
            return known[letter]
        number, place, _, kind, begins = letter
        stretch = self.stretch_for(letter, known)
        if begins:
            return stretch[0]
        behind = [stretch.index(known[other]) for other in known if other[0] == number and other[1] > place]
        found = self.new_letter(kind)
        stretch.insert(min(behind, default=len(stretch)), found)
        return found

    def order(self):
        """What the letters are called, in the order in which they are sent."""
        return [letter for stretch in self.stretches for letter in stretch]


def events_of(line, steps):
    """The deeds and comings of a weaving: the line at first, then for each coming the line ahead of it, the letter and
    which letters bear the marks then."""
    row = Row()
    marked = {mark: row.name_of(letter, {}) for mark, letter in letters_of(line).items()}
    came = []
    for ahead, letter, held in steps:
        known = {other: marked[mark] for mark, other in letters_of(ahead).items()}
        known[letter] = row.name_of(letter, known)
        marked = {mark: known[other] for mark, other in held.items()}
        came.append(known[letter])
    order = row.order()
    return [row.kinds[letter] for letter in order[1:]] + [f"come {order.index(letter)}" for letter in came]
