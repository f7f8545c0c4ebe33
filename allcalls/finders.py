"""Ways with a load among the switches that are left, looked for one by one: no list of all ways is needed.

Lots of switches are whole numbers here, with a bit for each switch of the box, the first one lowest.
"""

from allcalls.counts import pair_place, side_pairs, sums_at_sides
from allcalls.packs import bits_in

PATIENCE = 100


class Finder:
    """The switches of a box as bits: which ones meet, and which ones lie between which sides.

    hits: for each switch the lot of those that meet it, itself among them. between: for each pair of sides the lot
    of those between them. ends: for each side the lots of the switches at its pins.
    """

    def __init__(self, box):
        self.box = box
        self.everything = (1 << len(box.switches)) - 1
        self.bits = {switch: 1 << k for k, switch in enumerate(box.switches)}
        self.between = [0] * len(side_pairs(box.sides))
        at_pin = {}
        for switch, bit in self.bits.items():
            low, high = switch
            at_pin[low] = at_pin.get(low, 0) | bit
            at_pin[high] = at_pin.get(high, 0) | bit
            self.between[pair_place(box.sides, low[0], high[0])] |= bit
        self.hits = [at_pin[low] | at_pin[high] for low, high in box.switches]
        self.ends = [[] for _ in range(box.sides)]
        for pin, lot in at_pin.items():
            self.ends[pin[0]].append(lot)

    def lot_of(self, switches):
        """The lot of these switches of the box."""
        return sum([self.bits[switch] for switch in switches])

    def switches_in(self, lot):
        """The ascending tuple of the switches of the lot."""
        found = []
        while lot:
            bit = lot & -lot
            found.append(self.box.switches[bit.bit_length() - 1])
            lot ^= bit
        return tuple(found)

    def concerned(self, load):
        """The lot of all switches between two sides between which the load has a wire."""
        found = 0
        for lot, number in zip(self.between, load):
            if number > 0:
                found |= lot
        return found

    def way_with(self, load, gone):
        """A way with the load, as a lot, that has no switch of the lot gone; None if there is none."""
        free = self.concerned(load) & ~gone
        for lots, total in zip(self.ends, sums_at_sides(self.box.sides, load)):
            if len([lot for lot in lots if lot & free]) < total:
                return None
        return self.search(free, load, {})

    def scarcest(self, free, need):
        """The pair (spare, k) of the pair of sides that can spare the fewest of its free switches, by its index.

        None if no wire is needed.
        """
        spares = [(bits_in(free & self.between[k]) - need[k], k) for k in range(len(need)) if need[k] > 0]
        return min(spares) if spares else None

    def search(self, free, need, failed):
        """A way of just the load need among the free switches; None if there is none.

        failed has the pairs of free switches and loads that were looked for in vain.
        """
        scarce = self.scarcest(free, need)
        if scarce is None:
            return 0
        spare, k = scarce
        if spare < 0 or (free, need) in failed:
            return None
        rest = need[:k] + (need[k] - 1,) + need[k + 1:]
        left = free
        options = free & self.between[k]
        # Of the free switches of this pair of sides all but so many may be left out.
        for _ in range(spare + 1):
            bit = options & -options
            after = left & ~self.hits[bit.bit_length() - 1]
            if rest[k] == 0:
                after &= ~self.between[k]
            found = self.search(after, rest, failed)
            if found is not None:
                return found | bit
            options ^= bit
            left ^= bit
        failed[(free, need)] = True
        return None

    def all_ways(self, load, most):
        """The list of all ways with the load, as lots, ascending by their switches; at most so many, and one more."""
        found = []
        failed = {}
        vain = 0
        rest = [(0, self.concerned(load), load)]
        while rest and len(found) <= most:
            way, free, need = rest.pop()
            scarce = self.scarcest(free, need)
            if scarce is None:
                found.append(way)
                vain = 0
                continue
            if sum(need) == 1:
                ends = self.with_one_of(way, free & self.between[scarce[1]])
                found.extend(ends)
                vain = 0 if ends else vain + 1
                continue
            vain += 1
            # It is costly to see ahead whether a way comes at all, so this is done only where none came for long.
            if vain > PATIENCE and self.search(free, need, failed) is None:
                continue
            branches = []
            # Whichever switch comes next, those ahead of it are left out.
            while free and self.scarcest(free, need)[0] >= 0:
                bit = free & -free
                free ^= bit
                branches.append(self.taken(way, bit, free, need))
            rest.extend(branches[::-1])
        return found[:most + 1]

    def with_one_of(self, way, options):
        """The list of the ways that come of this one by each of the options, ascending."""
        found = []
        left = options
        while left:
            bit = left & -left
            left ^= bit
            found.append(way | bit)
        return found

    def taken(self, way, bit, free, need):
        """The way with one switch more, the free switches that do not meet it, and what is needed besides."""
        at = bit.bit_length() - 1
        low, high = self.box.switches[at]
        k = pair_place(self.box.sides, low[0], high[0])
        rest = need[:k] + (need[k] - 1,) + need[k + 1:]
        after = free & ~self.hits[at]
        if rest[k] == 0:
            after &= ~self.between[k]
        return (way | bit, after, rest)
