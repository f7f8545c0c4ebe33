"""What breaks a load: lots of switches that each of its ways has a switch of, found by the ways that they leave."""

from itertools import combinations

from allcalls.packs import bits_in
from allcalls.sheaves import Sheaf

MOST_WOUNDS = 40
# So many lots are looked at before ways are gathered that have no switch in common.
PATIENCE = 400


class Breaker:
    """A load of a box, and those of its ways, as lots, that were met so far."""

    def __init__(self, finder, load):
        self.finder = finder
        self.load = load
        self.between = finder.concerned(load)
        self.ways = []
        self.are_met = False
        self.left = None

    def way_without(self, gone):
        """A way with the load that has no switch of the lot gone; None if the lot breaks it."""
        for way in self.ways:
            if not way & gone:
                return way
        way = self.finder.way_with(self.load, gone)
        if way is not None:
            self.ways.append(way)
        return way

    def meet_ways(self):
        """Meet ways no two of which have a switch in common, as many as come: a lot has a switch of each."""
        if not self.are_met:
            self.are_met = True
            gone = 0
            way = self.way_without(gone)
            while way is not None and way != 0:
                gone |= way
                way = self.way_without(gone)

    def open_ways(self, gone, free):
        """The switches in free of the ways met that the lot gone leaves, those with the fewest first."""
        found = [way & free for way in self.ways if not way & gone]
        return sorted(found, key=bits_in)

    def lot_within(self, gone, free, budget):
        """The lot gone with at most so many switches of free such that the load is broken; None if there is none."""
        self.left = PATIENCE
        lot = self.breaking(gone, free, budget)
        if lot is not None or self.left > 0:
            return lot
        if self.may_come(gone, free, budget + 1) and self.is_gathered(gone, free, budget + 1):
            return None
        self.left = None
        return self.breaking(gone, free, budget)

    def may_come(self, gone, free, many):
        """Whether there are enough switches for so many ways as is_gathered looks for."""
        for lot, number in zip(self.finder.between, self.load):
            common = bits_in(lot & ~gone & ~free)
            if many * (number - common) > bits_in(lot & ~gone & free):
                return False
        return True

    def is_gathered(self, gone, free, many):
        """Whether so many ways came that the lot gone leaves, no two of which have a switch of free in common."""
        found = Sheaf(self.finder, self.load, gone, free, many).gather()
        if found is None:
            return False
        # Those that were met first are the first to be looked at.
        self.ways = found + self.ways
        return True

    def breaking(self, gone, free, budget):
        """The lot that lot_within tells; also None if left is a number and as many lots were looked at in vain."""
        if self.left is not None:
            self.left -= 1
            if self.left < 0:
                return None
        found = self.open_ways(gone, free)
        if not found:
            way = self.way_without(gone)
            if way is None:
                return gone
            found = [way & free]
        if least_hits(found, budget) > budget:
            return None
        options = found[0]
        left = free
        while options:
            bit = options & -options
            options ^= bit
            left ^= bit
            # What was tried ahead is left out here: it led to nothing.
            lot = self.breaking(gone | bit, left, budget - 1)
            if lot is not None:
                return lot
        return None

    def fewest(self):
        """The first lot, fewest then least, that breaks the load; None if none does."""
        if sum(self.load) == 0:
            return None
        if sum(self.load) == max(self.load):
            return self.uncovered(self.load.index(max(self.load)))
        self.meet_ways()
        budget = 0
        lot = self.lot_within(0, self.between, budget)
        while lot is None:
            budget += 1
            lot = self.lot_within(0, self.between, budget)
        return self.least(lot, budget)

    def uncovered(self, k):
        """What fewest tells, where all wires are wanted between two sides alone, the pair of index k.

        Too few wires are left exactly if pins that are fewer than the wires wanted have all switches that are left.
        """
        lot = self.finder.between[k]
        pins = [end & lot for ends in self.finder.ends for end in ends if end & lot]
        number = int(min(self.load[k] - 1, len(pins)))
        found = []
        for some in combinations(pins, number):
            left = lot
            for pin in some:
                left &= ~pin
            found.append((bits_in(left), left))
        fewest = min([many for many, _ in found])
        lots = [(self.finder.switches_in(left), left) for many, left in found if many == fewest]
        return min(lots)[1]

    def least(self, lot, budget):
        """The least lot of so many switches that breaks the load, where one is given and none with fewer does."""
        gone = 0
        free = self.between
        while gone != lot:
            bit = free & -free
            free ^= bit
            if lot & bit:
                gone |= bit
                continue
            other = self.lot_within(gone | bit, free, budget - bits_in(gone) - 1)
            if other is not None:
                lot = other
                gone |= bit
        return lot

    def holds(self, number):
        """Whether no lot of at most so many switches breaks the load."""
        if sum(self.load) == 0:
            return True
        if sum(self.load) == max(self.load):
            return bits_in(self.fewest()) > number
        self.meet_ways()
        return self.lot_within(0, self.between, number) is None


def least_hits(ways, enough):
    """How many switches are surely needed to have one of each of these ways; it is not told beyond enough + 1.

    A way without a switch cannot be met at all.
    """
    many = 0
    taken = 0
    for way in ways:
        if way == 0:
            return enough + 1
        if not way & taken:
            many += 1
            taken |= way
            if many > enough:
                return many
    return many


class Strengths:
    """A box within one with more switches, and lots of these that may be added: do the loads then hold?"""

    def __init__(self, finder, switches, loads, number):
        self.finder = finder
        self.outside = finder.everything ^ finder.lot_of(switches)
        self.breakers = [Breaker(finder, load) for load in loads]
        self.number = number
        self.wounds = []

    def is_enough(self, switches):
        """Whether, with these switches added, no lot of at most so many breaks one of the loads."""
        gone = self.outside & ~self.finder.lot_of(switches)
        for breaker, lot in self.wounds:
            # What broke the loads with other switches added is likely to do so with these.
            if breaker.way_without(gone | lot) is None:
                return False
        for breaker in self.breakers:
            lot = breaker.lot_within(gone, breaker.between & ~gone, self.number)
            if lot is not None:
                if len(self.wounds) < MOST_WOUNDS:
                    self.wounds.append((breaker, lot & ~gone))
                return False
        return True
