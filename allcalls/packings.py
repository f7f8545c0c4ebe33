"""How much can be packed if parts of packings are allowed: the greatest sums, by whole numbers alone."""


class Packing:
    """Rows with rooms, and columns that take one of some rows each; columns are packed in parts, as much as can be.

    It begins with nothing packed; each column that comes is packed as far as something better comes of it. All
    numbers are held times scale, so that they stay whole: prices has one for each row, and a column whose worth is
    above the sum of the prices of its rows makes the packing better. turned has, for each row, what its rooms give to
    the part that is packed by it; parts has these parts.
    """

    def __init__(self, rooms):
        many = len(rooms)
        self.scale = 1
        self.parts = list(rooms)
        self.prices = [0] * many
        self.turned = [[1 if k == row else 0 for k in range(many)] for row in range(many)]

    def gain(self, rows, worth):
        """By how much, times scale, the worth of a column is above the prices of its rows."""
        return worth * self.scale - sum([self.prices[row] for row in rows])

    def take(self, rows, worth):
        """Pack a column with a gain above 0 in place of the part that stands most in its way: the index of that part.
        """
        needs = [sum([line[row] for row in rows]) for line in self.turned]
        out = None
        for k, need in enumerate(needs):
            # The part is the one with the least of parts[k] / need; of equals the first one.
            if need > 0 and (out is None or self.parts[k] * needs[out] < self.parts[out] * need):
                out = k
        gain = self.gain(rows, worth)
        turn = needs[out]
        base = list(self.turned[out])
        part = self.parts[out]
        # Each division comes out even, as the numbers are all sums of products of rows and columns.
        self.prices = [(price * turn + gain * own) // self.scale for price, own in zip(self.prices, base)]
        for k, need in enumerate(needs):
            if k != out:
                line = self.turned[k]
                self.turned[k] = [(old * turn - need * own) // self.scale for old, own in zip(line, base)]
                self.parts[k] = (self.parts[k] * turn - need * part) // self.scale
        self.scale = turn
        return out
