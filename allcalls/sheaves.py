"""Ways of one load that have no switch in common: each wire is found a switch, and what is in its way seeks anew."""

from allcalls.packs import bits_in

# So many steps are made for each wire, and as many as START besides, before it is taken that no such ways come.
STEPS = 10
START = 100
# What was given up by a way is not taken by it again for so many steps, and for one more for each open wire.
PAUSE = 6


class Sheaf:
    """So many ways of a finder, none with a switch of the lot gone, no two with a switch of the lot free in common.

    held: for each way its switches, as a lot. owner: for each switch of free that is taken the way that has it.
    wanted: the wires that have no switch yet, as pairs of their way and their pair of sides. choices: for each pair of
    sides the switches that may be taken. until: from switches and ways to the step up to which they stay apart.
    often: how often one was taken by the other.
    """

    def __init__(self, finder, load, gone, free, many):
        self.finder = finder
        self.free = free
        self.held = [0] * many
        self.owner = {}
        self.wanted = []
        self.choices = []
        self.between = {}
        for k, number in enumerate(load):
            lot = finder.between[k] & ~gone if number > 0 else 0
            self.choices.append([wire for wire in range(lot.bit_length()) if lot >> wire & 1])
            for wire in self.choices[k]:
                self.between[wire] = k
            self.wanted.extend([(at, k) for at in range(many) for _ in range(number)])
        self.until = {}
        self.often = {}
        self.step = 0

    def gather(self):
        """The list of the ways, as lots; None if they did not come."""
        most = START + STEPS * len(self.wanted)
        while self.wanted and self.step < most:
            self.step += 1
            move = self.best_move()
            if move is not None:
                self.make(move[0], move[1])
        return None if self.wanted else self.held

    def best_move(self):
        """The pair of a wanted wire, by its index, and the switch it takes with the fewest given up; None if none."""
        best = None
        least = None
        for index, (at, k) in enumerate(self.wanted):
            for wire in self.choices[k]:
                if self.held[at] >> wire & 1 or self.until.get((wire, at), 0) > self.step:
                    continue
                cost = bits_in(self.held[at] & self.finder.hits[wire])
                if wire in self.owner:
                    cost += 1
                rank = (cost, self.often.get((wire, at), 0))
                if least is None or rank < least:
                    least = rank
                    best = (index, wire)
            if least == (0, 0):
                break
        return best

    def make(self, index, wire):
        """The wanted wire of this index takes the switch, and what is in its way is given up."""
        at, _ = self.wanted.pop(index)
        met = self.held[at] & self.finder.hits[wire]
        while met:
            bit = met & -met
            met ^= bit
            self.give_up(bit.bit_length() - 1, at)
        if wire in self.owner:
            self.give_up(wire, self.owner[wire])
        self.held[at] |= 1 << wire
        if self.free >> wire & 1:
            self.owner[wire] = at
        self.often[(wire, at)] = self.often.get((wire, at), 0) + 1

    def give_up(self, wire, at):
        """The way gives up the switch, and its wire wants another one."""
        self.held[at] &= ~(1 << wire)
        if wire in self.owner:
            self.owner.pop(wire)
        self.wanted.append((at, self.between[wire]))
        self.until[(wire, at)] = self.step + PAUSE + len(self.wanted)
