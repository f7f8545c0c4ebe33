"""Partings that are mixed: loose switches are put into items, and what is in their way is loose again."""

from allcalls.packs import bits_in

# So many steps are made for each switch before it is taken that no parting comes.
STEPS = 40
# What was taken out of an item stays out of it for so many steps, and for one more for each loose switch.
PAUSE = 6


class Mixer:
    """Items with caps, and the switches of a parter that are loose, by their numbers.

    held: the items, in the order of their caps. until: from switches and indices of items to the step up to which
    they stay apart. often: how often one was put into the other. last: for each switch the step at which it was put
    somewhere last.
    """

    def __init__(self, parter, caps):
        self.parter = parter
        self.caps = caps
        self.held = [0] * len(caps)
        self.loose = list(range(len(parter.wires)))
        self.masks = [parter.between[pair] for pair in sorted(parter.between)]
        self.until = {}
        self.often = {}
        self.last = [0] * len(parter.wires)
        self.step = 0

    def mix(self):
        """The list of the items of a parting; None if none came."""
        most = STEPS * len(self.last)
        while self.loose and self.step < most:
            self.step += 1
            move = self.best_move()
            if move is not None:
                self.make(move[0], move[1], move[2])
        return None if self.loose else self.held

    def is_room(self, item, wire, cap):
        """Whether the item with the switch, which meets none of it, is a standing not above the cap."""
        if bits_in(item) >= cap:
            return False
        load = tuple([bits_in(item & mask) for mask in self.masks])
        return self.parter.fitting(load) >> wire & 1 == 1

    def in_the_way(self, wire, at):
        """What has to leave the item of this index for the switch; None if more would have to than is tried."""
        met = self.held[at] & self.parter.hits[wire]
        rest = self.held[at] & ~met
        if self.is_room(rest, wire, self.caps[at]):
            return met
        oldest = None
        left = rest
        while left:
            bit = left & -left
            left ^= bit
            other = bit.bit_length() - 1
            if oldest is None or self.last[other] < self.last[oldest]:
                if self.is_room(rest & ~bit, wire, self.caps[at]):
                    oldest = other
        return None if oldest is None else met | (1 << oldest)

    def best_move(self):
        """The triple of a loose switch, the index of an item, and what leaves it, the fewest; None if there is none."""
        best = None
        least = None
        for wire in self.loose:
            for at in range(len(self.held)):
                if self.until.get((wire, at), 0) > self.step:
                    continue
                out = self.in_the_way(wire, at)
                if out is None:
                    continue
                rank = (bits_in(out), self.often.get((wire, at), 0), self.last[wire])
                if least is None or rank < least:
                    least = rank
                    best = (wire, at, out)
        return best

    def make(self, wire, at, out):
        """Put the switch into the item of this index, and take out what has to leave it."""
        self.held[at] = self.held[at] & ~out | (1 << wire)
        self.loose.remove(wire)
        self.last[wire] = self.step
        self.often[(wire, at)] = self.often.get((wire, at), 0) + 1
        left = out
        while left:
            bit = left & -left
            left ^= bit
            other = bit.bit_length() - 1
            self.loose.append(other)
            self.until[(other, at)] = self.step + PAUSE + len(self.loose)
