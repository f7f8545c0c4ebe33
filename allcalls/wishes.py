"""Which boxes of so many sides and tracks meet a wish: the switches that a box has are bits of a lot here."""

from allcalls.boxes import MOST_SIDES, check_sides, check_tracks, full
from allcalls.counts import is_frame_of
from allcalls.errors import BadFrame, BadWish, TooMany
from allcalls.frames import MOST_MOVES
from allcalls.games import Links, Table
from allcalls.kinds import is_tuple_of, is_within

MOST_WISHED = 12


def check_sizes(sides, tracks, frame):
    """Raise BadSides, BadTracks, BadFrame unless all are as they are described."""
    check_sides(sides, MOST_SIDES)
    check_tracks(tracks, 1)
    if not is_frame_of(sides, frame):
        raise BadFrame("frame is an ascending tuple of loads of the sides, none below another one")


def check_wish(wish):
    """Raise BadWish unless wish is about the loads, or live with a number of moves."""
    if is_tuple_of(wish, 1) and isinstance(wish[0], str) and wish[0] == "loads":
        return
    is_live = is_tuple_of(wish, 2) and isinstance(wish[0], str) and wish[0] == "live"
    if not is_live or not is_within(wish[1], 0, MOST_MOVES):
        raise BadWish("wish is about the loads, or live with a number of moves from 0 to 20")


def check_few(sides, tracks):
    """Raise TooMany(12) if the full box has more than 12 switches."""
    if sides * (sides - 1) // 2 * tracks * tracks > MOST_WISHED:
        raise TooMany(MOST_WISHED)


class Wish:
    """Which lots of switches of the full box meet a wish; each lot is looked at once.

    every: the switches of the full box, in the order of their bits. goals: for each load of the frame the lots of the
    ways for it. ends, wants: for each standing, as bits of their numbers, what its ends leave, and the list of the
    answers to its wants; both only if the wish is live.
    """

    def __init__(self, sides, tracks, frame, wish):
        box = full(sides, tracks)
        table = Table(box, frame)
        self.every = box.switches
        self.whole = (1 << len(self.every)) - 1
        self.marks = table.marks
        self.goals = [[table.marks[k] for k in table.groups.get(load, [])] for load in frame]
        self.is_live = wish[0] == "live"
        self.met = {}
        if self.is_live:
            self.ends = [as_bits(row) for row in table.ends]
            links = Links(table, wish[1])
            found = [as_bits(row) for row in links.answers]
            self.wants = [found[links.first[k]:links.first[k + 1]] for k in range(len(table.ways))]

    def lot_of(self, switches):
        """The lot of these switches."""
        return as_bits([self.every.index(switch) for switch in switches])

    def switches_of(self, lot):
        """The ascending tuple of the switches of a lot."""
        return tuple([switch for k, switch in enumerate(self.every) if lot >> k & 1])

    def meets(self, lot):
        """Whether the box with these switches meets the wish."""
        if lot not in self.met:
            self.met[lot] = self.carries(lot) and (not self.is_live or self.keeps(lot))
        return self.met[lot]

    def carries(self, lot):
        """Whether the box with these switches carries each load of the frame."""
        for marks in self.goals:
            if not [mark for mark in marks if not mark & ~lot]:
                return False
        return True

    def keeps(self, lot):
        """Whether the box with these switches has a keeping."""
        kept = [k for k, mark in enumerate(self.marks) if not mark & ~lot]
        known = 0
        while known != as_bits(kept):
            known = as_bits(kept)
            kept = [k for k in kept if self.is_answered(k, known)]
        return known & 1 == 1

    def is_answered(self, k, known):
        """Whether the ends of the standing of number k, and some answers to its wants, are all known."""
        if self.ends[k] & ~known:
            return False
        for answers in self.wants[k]:
            if not answers & known:
                return False
        return True

    def all_met(self):
        """The list, for each lot, of whether it meets the wish; what it meets without a switch, it meets with it."""
        found = [self.meets(0)]
        for lot in range(1, self.whole + 1):
            less = [bit for bit in bits_of(lot) if found[lot ^ bit]]
            found.append(True if less else self.meets(lot))
        return found

    def least_met(self):
        """The list of the lots that meet the wish, but not without any one of their switches."""
        met = self.all_met()
        found = []
        for lot in range(self.whole + 1):
            if met[lot] and not [bit for bit in bits_of(lot) if met[lot ^ bit]]:
                found.append(lot)
        return found

    def great_unmet(self):
        """The list of the lots that do not meet the wish, but do with any other switch more."""
        met = self.all_met()
        found = []
        for lot in range(self.whole + 1):
            if not met[lot] and not [bit for bit in bits_of(self.whole ^ lot) if not met[lot | bit]]:
                found.append(lot)
        return found


def as_bits(numbers):
    """The different numbers as bits."""
    return sum([1 << k for k in numbers])


def bits_of(lot):
    """The list of the bits of a lot."""
    return [1 << k for k in range(lot.bit_length()) if lot >> k & 1]
