"""How far a box reaches: the greatest loads of its pieces, and their greatest sums. Loads are packed here."""

from allcalls.counts import many_pairs
from allcalls.errors import TooMany
from allcalls.packs import bits_in, by_totals, first_over, greatest_packed, lanes

# Packed loads have five bits for a number here: at most 6 wires stand between two sides, and at most 15 in all.
SPAN = 5
HIGHEST = 15
SPAN_GUARD = 16
MOST_WAYS = 20000
MOST_SUMS = 1000
# So many switches have no more than 2 ** 14 ways.
FEW_SWITCHES = 14
# Pieces of up to so many switches, or pins, have so few ways that these are best looked at one by one.
FEW_IN_PIECE = 10


def wires_of(sides, switches, width, shift):
    """The list of the packed loads of a wire on each switch, so many bits for each number, all so many bits higher."""
    top = shift + width * (many_pairs(sides) - 1)
    # The place of a pair of sides is that of its lesser side, which may be -1, and the greater one together.
    highs = [top - width * (side * (2 * sides - side - 1) // 2 - side - 1) for side in range(sides)]
    return [1 << (highs[side] - width * far) for (side, _), (far, _) in switches]


def narrow(load):
    """The packed load; numbers above 15 count as 15, which no box carries either."""
    found = 0
    for number in load:
        found = (found << SPAN) | (number if number < HIGHEST else HIGHEST)
    return found


def told_wide(packs, many):
    """The list of the loads of so many numbers that are packed."""
    if many == 3:
        # Boxes of three sides are asked for most, and three numbers come fastest one by one.
        return [(pack >> 2 * SPAN, (pack >> SPAN) & HIGHEST, pack & HIGHEST) for pack in packs]
    shifts = list(range(SPAN * (many - 1), -1, -SPAN))
    return [tuple([(pack >> shift) & HIGHEST for shift in shifts]) for pack in packs]


def met_by(switches):
    """The list of the lots, as bits, of the switches that meet each of the switches, itself among them."""
    at_pin = {}
    bit = 1
    for low, high in switches:
        at_pin[low] = at_pin.get(low, 0) | bit
        at_pin[high] = at_pin.get(high, 0) | bit
        bit += bit
    return [at_pin[low] | at_pin[high] for low, high in switches]


def rows_of_pieces(met):
    """The list of the ascending numbers of the switches of each piece, by their first ones; met is met_by them."""
    lots = []
    for lot in met:
        rest = []
        for other in lots:
            if other & lot:
                lot |= other
            else:
                rest.append(other)
        rest.append(lot)
        lots = rest
    if len(lots) == 1:
        return [list(range(len(met)))]
    # The least pin of a piece is one of its first switch, so these stand as the pieces do.
    lots = sorted(lots, key=lambda one: one & -one)
    return [[k for k in range(len(met)) if lot >> k & 1] for lot in lots]


class Wiring:
    """How the switches of a box meet, and what wires on them count for, with so many bits for a number of a load.

    covers: for each switch a bit for those that meet it, itself among them, and above these, if ways are to be told,
    its own one. wires: for each switch, above all these bits, the packed load of a wire on it. rows: for each piece,
    ascending, the numbers of its switches. great: those pieces of many switches, by their places, that were checked.
    """

    def __init__(self, sides, switches, width, told):
        met = met_by(switches)
        many = len(met)
        self.switches = switches
        self.width = width
        self.many = many_pairs(sides)
        self.high = 2 * many if told else many
        self.covers = [lot | (1 << (many + k)) for k, lot in enumerate(met)] if told else met
        self.wires = wires_of(sides, switches, width, self.high)
        self.rows = rows_of_pieces(met)
        self.great = {}

    def check_ways(self):
        """Raise TooMany(20000) if some piece has more ways than that."""
        if len(self.covers) <= FEW_SWITCHES:
            return
        for k, row in enumerate(self.rows):
            if len(row) > FEW_SWITCHES:
                self.great[k] = GreatPiece(self, row)
                self.great[k].check_ways()

    def greatest_in(self, k):
        """The dict from the greatest packed loads of ways of the piece k, ascending, to such ways, as bits if told."""
        if self.many == 1:
            ways = self.ways_over(self.rows[k])
            if len(ways) == 1:
                return ways
        if k not in self.great and self.has_few_ways(self.rows[k]):
            ways = self.full_ways(self.rows[k])
            if len(ways) == 1:
                return ways
            return {load: ways[load] for load in greatest_packed(list(ways), self.many, self.width)}
        great = self.great[k] if k in self.great else GreatPiece(self, self.rows[k])
        ways = great.all_loads()
        found = list(ways)
        for wire in {one: True for one in great.wires}:
            # Less is carried as well, so what is below another load has one wire more somewhere.
            found = [load for load in found if load + wire not in ways]
        return {load: ways[load] for load in sorted(found)}

    def has_few_ways(self, row):
        """Whether a piece of no more than few switches has so few ways that they are best looked at one by one."""
        if len(row) <= FEW_IN_PIECE:
            return True
        pins = {pin: True for k in row for pin in self.switches[k]}
        return len(pins) <= FEW_IN_PIECE

    def ways_over(self, row):
        """Between two sides: the dict from a load to a way that takes all lesser pins of a piece; {} if none is seen.

        Each switch that can be is taken, one behind the other. No way of the piece has more wires than this one.
        """
        way = 0
        for k in row:
            if not way >> k & 1:
                way = (way | self.covers[k]) + self.wires[k]
        lows = {self.switches[k][0]: True for k in row}
        load = way >> self.high
        own = way ^ (load << self.high)
        return {load: own >> len(self.covers)} if load == len(lows) else {}

    def full_ways(self, row):
        """The dict from the packed loads of ways of a piece, to which no switch of it can be added, to such ways."""
        covers = self.covers
        wires = self.wires
        ways = [0]
        every = 0
        # The lowest bits of a way are of what it meets, those above them of its own switches, then comes its load.
        for k in row:
            bit = 1 << k
            every |= bit
            cover = covers[k]
            wire = wires[k]
            ways += [(way | cover) + wire for way in ways if not way & bit]
        many = len(covers)
        high = self.high
        if high == many:
            return {way >> high: 0 for way in ways if way & every == every}
        own = (1 << (high - many)) - 1
        return {way >> high: (way >> many) & own for way in ways if way & every == every}


class GreatPiece:
    """A piece of many switches: its pins in their order, and what each one is joined to.

    wires: for each switch the packed load of a wire on it. near: for each pin the list of triples of a later pin, as
    a bit, of the packed load of a wire between the two, and of the switch, as a bit. after: for each pin the lot of
    those later ones.
    """

    def __init__(self, wiring, row):
        switches = [wiring.switches[k] for k in row]
        pins = sorted({pin: True for switch in switches for pin in switch})
        place = {pin: k for k, pin in enumerate(pins)}
        self.near = [[] for _ in pins]
        self.after = [0] * len(pins)
        self.wires = [wiring.wires[k] >> wiring.high for k in row]
        for (low, high), wire, number in zip(switches, self.wires, row):
            bit = 1 << place[high]
            self.near[place[low]].append((bit, wire, 1 << number))
            self.after[place[low]] |= bit

    def check_ways(self):
        """Raise TooMany(20000) if the piece has more ways than that."""
        # For each lot of later pins that are taken: how many ways of the pins so far take just these.
        ways = {0: 1}
        for k, near in enumerate(self.near):
            bit = 1 << k
            total = 0
            for taken, number in ways.items():
                free = 0 if taken & bit else self.after[k] & ~taken
                total += number * (1 + bits_in(free))
            # Each way of the pins so far is one of the piece, so it need not be gone on.
            if total > MOST_WAYS:
                raise TooMany(MOST_WAYS)
            more = {}
            for taken, number in ways.items():
                left = taken & ~bit
                more[left] = more.get(left, 0) + number
                if left == taken:
                    for pin, _, _ in near:
                        if not taken & pin:
                            more[taken | pin] = more.get(taken | pin, 0) + number
            ways = more

    def all_loads(self):
        """The dict from the packed loads of all ways of the piece to such ways, as bits for their switches."""
        # For each lot of later pins that are taken: the packed loads of the ways that take these, and a way for each.
        ways = {0: {0: 0}}
        for k, near in enumerate(self.near):
            bit = 1 << k
            more = {}
            for taken, loads in ways.items():
                left = taken & ~bit
                add_loads(more.setdefault(left, {}), loads)
                if left != taken:
                    continue
                for pin, wire, switch in near:
                    if not taken & pin:
                        add_raised(more.setdefault(taken | pin, {}), loads, wire, switch)
            ways = more
        return ways[0]


def add_loads(found, loads):
    """Put the loads with their ways into found, where they are not yet."""
    for load, way in loads.items():
        if load not in found:
            found[load] = way


def add_raised(found, loads, wire, switch):
    """Put the loads with one wire more, and their ways with the switch, into found, where they are not yet."""
    for load, way in loads.items():
        if load + wire not in found:
            found[load + wire] = way | switch


class Reach:
    """The greatest loads of each piece of a box with their ways, and the greatest sums of the pieces ahead.

    parts has a dict for each piece, from its greatest loads to ways, as bits for their switches, if they are told.
    steps has a list more: the greatest sums of the pieces ahead, ascending.
    """

    def __init__(self, box, told):
        wiring = Wiring(box.sides, box.switches, SPAN, told)
        wiring.check_ways()
        self.switches = box.switches
        self.wires = wiring.wires
        self.high = wiring.high
        self.many = wiring.many
        self.guard = lanes(wiring.many, SPAN, SPAN_GUARD)
        self.parts = [wiring.greatest_in(k) for k in range(len(wiring.rows))]
        self.steps = [[0]]
        for part in self.parts:
            self.steps.append(next_sums(self.steps[-1], part, self.many))

    def is_in_reach(self, load):
        """Whether the box carries the load."""
        return first_over(self.steps[-1], narrow(load), self.guard) is not None

    def way_within(self, load):
        """A way with the load; None if there is none."""
        pack = narrow(load)
        top = first_over(self.steps[-1], pack, self.guard)
        if top is None:
            return None
        lot = 0
        for k in range(len(self.parts) - 1, -1, -1):
            sums = {pack: True for pack in self.steps[k]}
            own = first_that_leaves(self.parts[k], top, sums)
            lot |= self.parts[k][own]
            top -= own
        return self.trimmed(lot, pack)

    def trimmed(self, lot, pack):
        """The ascending tuple of the first wires of the lot between each pair of sides, as many as the load says."""
        kept = []
        while pack:
            k = (lot & -lot).bit_length() - 1
            lot ^= 1 << k
            wire = self.wires[k] >> self.high
            if pack & (HIGHEST * wire):
                pack -= wire
                kept.append(self.switches[k])
        return tuple(kept)


def first_that_leaves(tops, pack, sums):
    """The first one of tops without which the packed load is one of sums."""
    for top in tops:
        if pack - top in sums:
            return top
    return None


def next_sums(ahead, tops, many):
    """The ascending list of the greatest sums of a load of ahead and one of tops."""
    if ahead == [0]:
        # Nothing is ahead, so the sums are what is summed.
        found = list(tops)
    elif len(ahead) * len(tops) <= MOST_SUMS:
        made = {former + own: True for former in ahead for own in tops}
        found = greatest_packed(list(made), many, SPAN)
    else:
        found = many_sums(ahead, tops, many)
    if len(found) > MOST_SUMS:
        raise TooMany(MOST_SUMS)
    return found


def many_sums(ahead, tops, many):
    """The ascending list of the greatest sums of a load of ahead and one of tops; TooMany(1000) as soon as can be."""
    formers = by_totals(ahead, SPAN)
    owns = by_totals(list(tops), SPAN)
    made = {}
    for former in formers[max(formers)]:
        for own in owns[max(owns)]:
            made[former + own] = True
        # These have the greatest sum of numbers of all, so none of them is below another one.
        if len(made) > MOST_SUMS:
            raise TooMany(MOST_SUMS)
    if len(formers) == 1 and len(owns) == 1:
        return sorted(made)
    every = {former + own: True for former in ahead for own in tops}
    return greatest_packed(list(every), many, SPAN)
