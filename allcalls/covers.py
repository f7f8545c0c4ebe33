"""Covers: the fewest sets that have all members together, and numbers that show that so few have not.

Sets of members are lists of whole numbers here, with a bit for each member, 2048 in each number.
"""

from allcalls.packings import Packing
from allcalls.packs import bits_in

WIDTH = 2048
MOST_NUMBER = 999
MOST_STEPS = 200
# With more rows it takes longer to find numbers than to do without them.
MOST_ROWS = 60


def set_of(members, many):
    """The set of these members, of so many."""
    found = [0] * (many // WIDTH + 1)
    for member in members:
        found[member // WIDTH] |= 1 << member % WIDTH
    return found


def beyond(one, other):
    """The set of the members of the one that are not in the other."""
    return [mine & ~yours for mine, yours in zip(one, other)]


def size_both(one, other):
    """How many members are in both."""
    return sum([bits_in(mine & yours) for mine, yours in zip(one, other)])


def size_of(one):
    """How many members there are."""
    return sum([bits_in(part) for part in one])


def first_of(one):
    """The least member; None if there is none."""
    for at, part in enumerate(one):
        if part:
            bit = part & -part
            return at * WIDTH + bit.bit_length() - 1
    return None


def members_of(one):
    """The ascending list of the members."""
    found = []
    for at, part in enumerate(one):
        left = part
        while left:
            bit = left & -left
            found.append(at * WIDTH + bit.bit_length() - 1)
            left ^= bit
    return found


class Cover:
    """Rows, each of which has some of the members below many.

    having: for each member the list of the rows that have it. rows: for each row the set of its members.
    """

    def __init__(self, many, having, rows):
        self.many = many
        self.having = having
        self.rows = rows

    def all_members(self):
        """The set of all members."""
        return set_of(list(range(self.many)), self.many)

    def likeliest(self, left, barred):
        """The rows that have the first member left and are not barred, those with the most members left first."""
        rows = [row for row in self.having[first_of(left)] if row not in barred]
        sizes = {row: size_both(self.rows[row], left) for row in rows}
        return sorted(rows, key=lambda one: (-sizes[one], one))

    def greedy(self):
        """A list of rows that have all members together; None if some member is in none."""
        left = self.all_members()
        chosen = []
        while size_of(left) > 0:
            rows = self.likeliest(left, {})
            if not rows:
                return None
            chosen.append(rows[0])
            left = beyond(left, self.rows[rows[0]])
        return chosen

    def within(self, left, many, barred):
        """A list of at most so many rows, none barred, that have all members left; None if there is none."""
        size = size_of(left)
        if size == 0:
            return []
        if many == 0 or size > many * max([size_both(row, left) for row in self.rows]):
            return None
        tried = {row: True for row in barred}
        for row in self.likeliest(left, barred):
            more = self.within(beyond(left, self.rows[row]), many - 1, tried)
            if more is not None:
                return [row] + more
            # What was tried ahead is left out: it led to nothing.
            tried = {one: True for one in tried}
            tried[row] = True
        return None

    def fewest(self, most):
        """As few rows as can be that have all members together; None if there are none, or only more than most."""
        best = self.greedy()
        if best is None:
            return None
        least = 0
        while least < len(best):
            if least > most:
                return None
            found = self.within(self.all_members(), least, {})
            if found is not None:
                return found
            least += 1
        return best if len(best) <= most else None

    def numbers(self, left, many):
        """The dict from members left to numbers from 1 to 999 such that so many rows have less than all numbers.

        Each row alone, times many, has less; None if no such numbers came.
        """
        members = members_of(left)
        if not members:
            return None
        for member in members:
            if not self.having[member]:
                return {member: 1}
        sizes = [size_both(row, left) for row in self.rows]
        if max(sizes + [0]) * many < len(members):
            return {member: 1 for member in members}
        hit = [at for at, size in enumerate(sizes) if size > 0]
        if len(hit) > MOST_ROWS:
            return None
        return self.packed_numbers(members, hit, many)

    def packed_numbers(self, members, hit, many):
        """What numbers tells, found by packing members into the rows that have some of them."""
        places = {row: at for at, row in enumerate(hit)}
        columns = [[places[row] for row in self.having[member]] for member in members]
        packing = Packing([1] * len(hit))
        based = [None] * len(hit)
        for _ in range(MOST_STEPS):
            low = min(packing.prices)
            if low < 0:
                at = packing.prices.index(low)
                based[packing.take([at], 0)] = None
                continue
            gains = [packing.gain(column, 1) for column in columns]
            gain = max(gains)
            if gain <= 0 or sum(packing.prices) > many * packing.scale:
                break
            at = gains.index(gain)
            based[packing.take(columns[at], 1)] = members[at]
        found = {}
        for member, part in zip(based, packing.parts):
            if member is not None and part > 0:
                found[member] = part
        return found if self.are_numbers(found, many) else None

    def are_numbers(self, found, many):
        """Whether these numbers are from 1 to 999, and each row, times many, has less than all of them."""
        total = sum(list(found.values()))
        if not found or max(list(found.values())) > MOST_NUMBER:
            return False
        borne = {}
        for member, number in found.items():
            for row in self.having[member]:
                borne[row] = borne.get(row, 0) + number
        return max(list(borne.values()) + [0]) * many < total
