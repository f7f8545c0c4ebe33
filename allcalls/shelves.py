"""Sets of whole numbers that come again and again: each is kept once, and called by a number of its own."""


class Shelf:
    """Kept sets. rows: the ascending tuples of their members. place: from each tuple to the number of the set."""

    def __init__(self):
        self.rows = []
        self.place = {}
        self.known = {}
        self.parts = {}

    def put(self, members):
        """The number of the set with these ascending members."""
        row = tuple(members)
        if row not in self.place:
            self.place[row] = len(self.rows)
            self.rows.append(row)
        return self.place[row]

    def known_in(self, one):
        """The dict with the members of the set as its keys."""
        if one not in self.known:
            self.known[one] = {member: True for member in self.rows[one]}
        return self.known[one]

    def parted(self, one, other):
        """The pair of the sets of those members of the one that are not, and that are, in the other."""
        if (one, other) not in self.parts:
            known = self.known_in(other)
            out = [member for member in self.rows[one] if member not in known]
            inside = [member for member in self.rows[one] if member in known]
            self.parts[(one, other)] = (self.put(out), self.put(inside))
        return self.parts[(one, other)]
