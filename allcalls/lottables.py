"""Tables of all lots of a box of few switches: which ones, left alone, have ways for loads.

A table has a bit for each lot; the bits are kept in rows of at most 2048, lots being numbers as in finders.
"""

LOW = 11


def unset(low, k):
    """The bits of a row for the lots, of so many switches, that do not have the switch of number k."""
    width = 1 << k
    found = (1 << width) - 1
    while 2 * width < 1 << low:
        width = 2 * width
        found |= found << width
    return found


def table_of(many, lots):
    """The table that marks these lots of so many switches."""
    low = min(many, LOW)
    rows = [0] * (1 << (many - low))
    for lot in lots:
        rows[lot >> low] |= 1 << (lot & ((1 << low) - 1))
    return LotTable(many, rows, [unset(low, k) for k in range(low)])


class LotTable:
    """Which lots of so many switches are marked, and what comes of them by switches more or less."""

    def __init__(self, many, rows, lacks):
        self.many = many
        self.rows = rows
        self.lacks = lacks
        self.low = len(lacks)

    def made(self, rows):
        """A table of these rows."""
        return LotTable(self.many, rows, self.lacks)

    def spread(self):
        """The table that marks all lots that have some marked lot within."""
        rows = list(self.rows)
        for k in range(self.low):
            rows = [row | ((row & self.lacks[k]) << (1 << k)) for row in rows]
        for k in range(self.many - self.low):
            for at in range(len(rows)):
                if at & (1 << k):
                    rows[at] |= rows[at ^ (1 << k)]
        return self.made(rows)

    def less_one(self, k):
        """The table that marks the lots without the switch of number k that are marked with it."""
        if k < self.low:
            return self.made([(row >> (1 << k)) & self.lacks[k] for row in self.rows])
        bit = 1 << (k - self.low)
        return self.made([0 if at & bit else self.rows[at | bit] for at in range(len(self.rows))])

    def both(self, other):
        """The table that marks what is marked in both."""
        return self.made([one & two for one, two in zip(self.rows, other.rows)])

    def opposite(self):
        """The table that marks what is not marked."""
        full = (1 << (1 << self.low)) - 1
        return self.made([full & ~row for row in self.rows])

    def marked(self):
        """The list of the marked lots."""
        found = []
        for at, row in enumerate(self.rows):
            left = row
            while left:
                bit = left & -left
                found.append((at << self.low) + bit.bit_length() - 1)
                left ^= bit
        return found


def left_tables(finder, frame):
    """The table of the lots that, left alone, have a way for each of these loads."""
    many = len(finder.box.switches)
    found = table_of(many, [0]).spread()
    for load in frame:
        # No more than all lots can be ways.
        ways = finder.all_ways(load, 1 << many)
        found = found.both(table_of(many, ways).spread())
    return found


def greatest_marked(table):
    """The list of the marked lots that no switch more leaves marked."""
    found = table
    for k in range(table.many):
        found = found.both(table.less_one(k).opposite())
    return found.marked()
