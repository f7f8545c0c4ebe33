"""What was heard of an exchange, item by item, and which standings may follow each other by it."""

from itertools import combinations
from math import comb

from allcalls.boxes import has_switch
from allcalls.counts import is_pair_of_sides, one_more
from allcalls.errors import BadHeard
from allcalls.games import Table, is_few
from allcalls.keepings import check_game
from allcalls.kinds import is_row, is_tuple_of
from allcalls.packs import bits_in

MOST_HEARD = 60
# Where a standing has no more lots of so many wires than this, those that share wires are found by such lots.
FEW_LOTS = 40


def is_item(box, broken, thing):
    """Whether any value is an item that may be heard where the switches of broken (a dict) are broken already."""
    if not is_tuple_of(thing, 2) or not isinstance(thing[0], str):
        return False
    word, what = thing
    if word == "want":
        return is_pair_of_sides(box.sides, what)
    if word == "end":
        return has_switch(box, what)
    return word == "break" and has_switch(box, what) and what not in broken


def check_heard(box, frame, moves, heard):
    """Raise BadBox, BadFrame, BadMoves, BadHeard unless all are as they are described."""
    check_game(box, frame, moves)
    if not is_row(heard) or len(heard) > MOST_HEARD:
        raise BadHeard(None)
    broken = {}
    for at, item in enumerate(heard):
        if not is_item(box, broken, item):
            raise BadHeard(at)
        if item[0] == "break":
            broken[item[1]] = True


def lots_within(mark, many):
    """All lots of so many bits of a mark."""
    chosen = int(many)
    bits = [1 << k for k in range(mark.bit_length()) if mark >> k & 1]
    return [sum(lot) for lot in combinations(bits, chosen)]


class Nearby:
    """Standings, by their numbers, of which those are looked for that lack at most so many wires of another one."""

    def __init__(self, numbers, marks, moves):
        self.among = numbers
        self.known = {k: True for k in numbers}
        self.many = len(numbers)
        self.marks = marks
        self.moves = moves
        self.lots = {}

    def by_lots(self, many):
        """The dict from all lots of so many wires of the standings to the numbers of those that have them."""
        if many not in self.lots:
            found = {}
            for k in self.among:
                for lot in lots_within(self.marks[k], many):
                    found.setdefault(lot, []).append(k)
            self.lots[many] = found
        return self.lots[many]

    def close_to(self, own):
        """The list of the numbers of the standings that lack at most so many of the wires of own."""
        size = bits_in(own)
        stay = size - self.moves
        if stay <= 0:
            return self.among
        if not self.among or comb(bits_in(self.marks[self.among[0]]), stay) > FEW_LOTS:
            return [k for k in self.among if is_few(own & ~self.marks[k], self.moves)]
        by_lot = self.by_lots(stay)
        found = {}
        for lot in lots_within(own, stay):
            for k in by_lot.get(lot, []):
                found[k] = True
        return list(found)


class Hearing:
    """All standings, and what each item that was heard asks of them; TooMany(5000) if there are too many.

    ways, marks: the standings, and their wires as bits. place: from each to its number. bits: from each switch to its
    bit. gone: for each index, and behind all, what is broken then, as bits.
    """

    def __init__(self, box, frame, moves, heard):
        self.sides = box.sides
        self.moves = moves
        self.said = list(heard)
        self.table = Table(box, frame)
        self.ways = self.table.ways
        self.marks = self.table.marks
        self.place = self.table.place
        self.bits = {switch: 1 << k for k, switch in enumerate(box.switches)}
        self.gone = [0]
        for word, what in heard:
            self.gone.append(self.gone[-1] | (self.bits[what] if word == "break" else 0))
        self.nearby = {}

    def is_due(self, at, k):
        """Whether the item is due at the standing of number k."""
        if self.marks[k] & self.gone[at]:
            return False
        word, what = self.said[at]
        if word == "want":
            return what in self.table.wants[self.table.loads[k]]
        return word == "break" or self.marks[k] & self.bits[what] != 0

    def movable(self, at, k):
        """The wires of the standing of number k that may be moved when the item is answered, as bits."""
        word, what = self.said[at]
        return self.marks[k] if word == "want" else self.marks[k] & ~self.bits[what]

    def nearby_at(self, at, load):
        """The standings that may answer the item at those with the load."""
        if (at, load) not in self.nearby:
            word, what = self.said[at]
            goal = one_more(self.sides, load, what) if word == "want" else load
            group = [k for k in self.table.groups.get(goal, []) if not self.marks[k] & self.gone[at + 1]]
            self.nearby[(at, load)] = Nearby(group, self.marks, self.moves)
        return self.nearby[(at, load)]

    def answers_at(self, at, k):
        """The list of the numbers of the answers to the item at the standing of number k, where it is due."""
        word, what = self.said[at]
        if word == "end":
            return [self.table.ends[k][self.ways[k].index(what)]]
        return self.nearby_at(at, self.table.loads[k]).close_to(self.movable(at, k))

    def cost(self, at, k, other):
        """How many wires of the standing of number k are moved in the other one, which answers the item."""
        return bits_in(self.movable(at, k) & ~self.marks[other])

    def leads(self, at, k, other):
        """Whether the item is due at the standing of number k and the other one is an answer."""
        if not self.is_due(at, k):
            return False
        if self.said[at][0] == "end":
            return self.answers_at(at, k) == [other]
        group = self.nearby_at(at, self.table.loads[k])
        return other in group.known and is_few(self.movable(at, k) & ~self.marks[other], self.moves)

    def next_numbers(self, at, numbers):
        """The ascending list of the numbers of all answers to the item at standings of one load."""
        found = {}
        for k in numbers:
            if self.is_due(at, k):
                for other in self.answers_at(at, k):
                    found[other] = True
                if self.said[at][0] != "end" and len(found) == self.nearby_at(at, self.table.loads[k]).many:
                    break
        return sorted(found)

    def rows_from(self, at, k):
        """The ascending lists of the numbers that may stand from the index on, if k stands there."""
        rows = [[k]]
        for index in range(at, len(self.said)):
            rows.append(self.next_numbers(index, rows[-1]))
        return rows

    def is_led_on(self, at, k, known):
        """Whether the item is due at the standing of number k and some answer is a key of known."""
        if not self.is_due(at, k):
            return False
        for other in self.answers_at(at, k):
            if other in known:
                return True
        return False

    def rows_through(self):
        """The ascending lists, for all indexes, of the numbers that some run has there."""
        rows = self.rows_from(0, 0)
        for at in range(len(self.said) - 1, -1, -1):
            known = {k: True for k in rows[at + 1]}
            rows[at] = [k for k in rows[at] if self.is_led_on(at, k, known)]
        return rows

    def run_on(self, at, k, rows):
        """The list of the numbers of a run from k on, which stands at the index; rows are rows_through."""
        found = [k]
        for index in range(at, len(self.said)):
            known = {other: True for other in rows[index + 1]}
            found.append([other for other in self.answers_at(index, found[-1]) if other in known][0])
        return found
