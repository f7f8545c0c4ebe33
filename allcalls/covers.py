"""Covers: the fewest sets that have all members together, and numbers that show that so few have not.

Sets of members are lists of whole numbers here, with a bit for each member, 2048 in each number.
"""

from allcalls.packings import Packing
from allcalls.packs import bits_in

WIDTH = 2048
MOST_NUMBER = 999
MOST_STEPS = 200
# With more rows it takes longer to find numbers than to do without them.
MOST_ROWS = 60


def set_of(members, many):
    """The set of these members, of so many."""
    found = [0] * (many // WIDTH + 1)
    for member in members:
        found[member // WIDTH] |= 1 << member % WIDTH
    return found


def beyond(one, other):
    """The set of the members of the one that are not in the other."""
    return [mine & ~yours for mine, yours in zip(one, other)]


def both_of(one, other):
    """The set of the members of both."""
    return [mine & yours for mine, yours in zip(one, other)]


def joined(one, other):
    """The set of the members of the one or the other."""
    return [mine | yours for mine, yours in zip(one, other)]


def size_both(one, other):
    """How many members are in both."""
    return sum([bits_in(mine & yours) for mine, yours in zip(one, other)])


def size_of(one):
    """How many members there are."""
    return sum([bits_in(part) for part in one])


def first_of(one):
    """The least member; None if there is none."""
    for at, part in enumerate(one):
        if part:
            bit = part & -part
            return at * WIDTH + bit.bit_length() - 1
    return None


def is_empty(one):
    """Whether there are no members."""
    for part in one:
        if part:
            return False
    return True


def members_of(one):
    """The ascending list of the members."""
    found = []
    for at, part in enumerate(one):
        left = part
        while left:
            bit = left & -left
            found.append(at * WIDTH + bit.bit_length() - 1)
            left ^= bit
    return found


class Sums:
    """A sum for each of so many members, bit by bit: the plane of an index has those whose sum has this bit."""

    def __init__(self, many):
        self.every = set_of(list(range(many)), many)
        self.none = set_of([], many)
        self.planes = []

    def raise_by(self, members, worth):
        """Make the sums of the members greater by a worth."""
        place = 0
        while worth >> place:
            if worth >> place & 1:
                self.carry(members, place)
            place += 1

    def carry(self, members, place):
        """Make the sums of the members greater by the bit of this index."""
        at = place
        left = members
        while not is_empty(left):
            while at >= len(self.planes):
                self.planes.append(self.none)
            both = both_of(self.planes[at], left)
            self.planes[at] = beyond(joined(self.planes[at], left), both)
            left = both
            at += 1

    def reaches(self, least):
        """Whether some sum is not below a number."""
        equal = self.every
        for at in range(max(len(self.planes), least.bit_length()) - 1, -1, -1):
            plane = self.planes[at] if at < len(self.planes) else self.none
            both = both_of(equal, plane)
            if least >> at & 1:
                equal = both
            elif not is_empty(both):
                return True
        return not is_empty(equal)


class Misses:
    """Some lots of switches, numbered, and which of them have none of the switches of another lot.

    Lots are whole numbers with a bit for each switch. having: for each bit the set of those that have it.
    """

    def __init__(self, lots):
        self.every = set_of(list(range(len(lots))), len(lots))
        numbers = {}
        for k, lot in enumerate(lots):
            for bit in members_of([lot]):
                numbers.setdefault(bit, []).append(k)
        self.having = {bit: set_of(found, len(lots)) for bit, found in numbers.items()}

    def missing(self, lot):
        """The set of those that have no switch of the lot."""
        found = self.every
        for bit in members_of([lot]):
            if bit in self.having:
                found = beyond(found, self.having[bit])
        return found


class Cover:
    """Rows, each of which has some of the members below many.

    having: for each member the set of the rows that have it. rows: for each row the set of its members. every_member,
    every_row: the sets of all.
    """

    def __init__(self, many, having, rows):
        self.having = having
        self.rows = rows
        self.every_member = set_of(list(range(many)), many)
        self.every_row = set_of(list(range(len(rows))), len(rows))

    def likeliest(self, left, barred):
        """The rows that have the first member left and are not barred, those with the most members left first."""
        rows = members_of(beyond(self.having[first_of(left)], barred))
        sizes = {row: size_both(self.rows[row], left) for row in rows}
        return sorted(rows, key=lambda one: (-sizes[one], one))

    def greedy(self):
        """A list of rows that have all members together; None if some member is in none."""
        left = self.every_member
        barred = set_of([], len(self.rows))
        chosen = []
        while not is_empty(left):
            rows = self.likeliest(left, barred)
            if not rows:
                return None
            chosen.append(rows[0])
            left = beyond(left, self.rows[rows[0]])
        return chosen

    def whole_rows(self, left):
        """The set of the rows that have all members left."""
        found = self.every_row
        for member in members_of(left):
            found = both_of(found, self.having[member])
            if is_empty(found):
                break
        return found

    def within(self, left, many, barred):
        """A list of at most so many rows, none barred, that have all members left; None if there is none."""
        size = size_of(left)
        if size == 0:
            return []
        if many == 0:
            return None
        if many == 1:
            row = first_of(beyond(self.whole_rows(left), barred))
            return None if row is None else [row]
        most = max([size_both(row, left) for row in self.rows])
        tried = barred
        for row in self.likeliest(left, barred):
            # Behind it come such with fewer members left, and no other row has more than most.
            if size_both(self.rows[row], left) + (many - 1) * most < size:
                break
            more = self.within(beyond(left, self.rows[row]), many - 1, tried)
            if more is not None:
                return [row] + more
            # What was tried ahead is left out: it led to nothing.
            tried = joined(tried, set_of([row], len(self.rows)))
        return None

    def fewest(self, least, most):
        """As few rows as can be that have all members together; None if there are none, or only more than most.

        least is a number below which there are surely none.
        """
        best = self.greedy()
        if best is None:
            return None
        many = least
        while many < len(best):
            if many > most:
                return None
            found = self.within(self.every_member, many, set_of([], len(self.rows)))
            if found is not None:
                return found
            many += 1
        return best if len(best) <= most else None

    def numbers(self, left, many):
        """The dict from members left to numbers from 1 to 999 such that so many rows have less than all numbers.

        Each row alone, times many, has less; None if no such numbers came.
        """
        members = members_of(left)
        if not members:
            return None
        for member in members:
            if is_empty(self.having[member]):
                return {member: 1}
        if many == 0:
            return {members[0]: 1}
        if many == 1:
            return self.few_members(members)
        sizes = [size_both(row, left) for row in self.rows]
        if max(sizes + [0]) * many < len(members):
            return {member: 1 for member in members}
        hit = [at for at, size in enumerate(sizes) if size > 0]
        if len(hit) > MOST_ROWS:
            return None
        return self.packed_numbers(members, hit, many)

    def few_members(self, members):
        """The dict from some of the members to 1 such that no row has all of them; None if some row has all."""
        found = {}
        rows = self.every_row
        for member in members:
            if is_empty(rows):
                break
            less = both_of(rows, self.having[member])
            if less != rows:
                found[member] = 1
                rows = less
        return found if is_empty(rows) else None

    def packed_numbers(self, members, hit, many):
        """What numbers tells, found by packing members into the rows that have some of them."""
        places = {row: at for at, row in enumerate(hit)}
        columns = [[places[row] for row in members_of(self.having[member])] for member in members]
        packing = Packing([1] * len(hit))
        based = [None] * len(hit)
        for _ in range(MOST_STEPS):
            low = min(packing.prices)
            if low < 0:
                at = packing.prices.index(low)
                based[packing.take([at], 0)] = None
                continue
            gains = [packing.gain(column, 1) for column in columns]
            gain = max(gains)
            if gain <= 0 or sum(packing.prices) > many * packing.scale:
                break
            at = gains.index(gain)
            based[packing.take(columns[at], 1)] = members[at]
        found = {}
        for member, part in zip(based, packing.parts):
            if member is not None and part > 0:
                found[member] = part
        return found if self.are_numbers(found, many) else None

    def are_numbers(self, found, many):
        """Whether these numbers are from 1 to 999, and each row, times many, has less than all of them."""
        total = sum(list(found.values()))
        if not found or max(list(found.values())) > MOST_NUMBER:
            return False
        borne = {}
        for member, number in found.items():
            for row in members_of(self.having[member]):
                borne[row] = borne.get(row, 0) + number
        return max(list(borne.values()) + [0]) * many < total
