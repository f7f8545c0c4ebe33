"""How far a box reaches: the greatest loads of its pieces, and their greatest sums. Loads are packed here."""

from allcalls.boxes import joined_pins, piece_of
from allcalls.counts import pair_place, side_pairs
from allcalls.errors import TooMany
from allcalls.packs import bits_in, first_over, greatest_packed, guards, packed, total_of, unit, unpacked

MOST_WAYS = 20000
MOST_SUMS = 1000
# So many switches have no more than 2 ** 14 ways.
FEW_SWITCHES = 14


class Piece:
    """A piece of a box: its pins in their order, and what each one is joined to.

    near: for each pin the list of triples of a later pin, as a bit, of the packed load of a wire between the two, and
    of the switch. after: for each pin the lot of those later ones.
    """

    def __init__(self, sides, switches, pins):
        many = len(side_pairs(sides))
        place = {pin: k for k, pin in enumerate(pins)}
        self.near = [[] for _ in pins]
        self.after = [0] * len(pins)
        for switch in switches:
            low, high = switch
            bit = 1 << place[high]
            one = unit(many, pair_place(sides, low[0], high[0]))
            self.near[place[low]].append((bit, one, switch))
            self.after[place[low]] |= bit
        self.many = len(switches)

    def check_ways(self):
        """Raise TooMany(20000) if the piece has more ways than that."""
        if self.many <= FEW_SWITCHES:
            return
        # For each lot of later pins that are taken: how many ways of the pins so far take just these.
        ways = {0: 1}
        for k, near in enumerate(self.near):
            bit = 1 << k
            total = 0
            for taken, number in ways.items():
                free = 0 if taken & bit else self.after[k] & ~taken
                total += number * (1 + bits_in(free))
            # Each way of the pins so far is one of the piece, so it need not be gone on.
            if total > MOST_WAYS:
                raise TooMany(MOST_WAYS)
            more = {}
            for taken, number in ways.items():
                left = taken & ~bit
                more[left] = more.get(left, 0) + number
                if left == taken:
                    for pin, _, _ in near:
                        if not taken & pin:
                            more[taken | pin] = more.get(taken | pin, 0) + number
            ways = more

    def top_ways(self, guard):
        """The dict from the greatest packed loads of ways of the piece, ascending, to such ways."""
        # For each lot of later pins that are taken: the packed loads of the ways that take these, and a way for each.
        ways = {0: {0: ()}}
        for k, near in enumerate(self.near):
            bit = 1 << k
            more = {}
            for taken, loads in ways.items():
                left = taken & ~bit
                add_loads(more.setdefault(left, {}), loads)
                if left != taken:
                    continue
                for pin, one, switch in near:
                    if not taken & pin:
                        add_raised(more.setdefault(taken | pin, {}), loads, one, switch)
            ways = more
        loads = ways[0]
        return {load: loads[load] for load in greatest_packed(list(loads), guard)}


def add_loads(found, loads):
    """Put the loads with their ways into found, where they are not yet."""
    for load, way in loads.items():
        if load not in found:
            found[load] = way


def add_raised(found, loads, one, switch):
    """Put the loads with one wire more, and their ways with the switch, into found, where they are not yet."""
    for load, way in loads.items():
        if load + one not in found:
            found[load + one] = way + (switch,)


def pieces_of(box):
    """The list of the pieces of a box, ascending by their pins."""
    near = joined_pins(box)
    home = {}
    pins = []
    for pin in sorted(near):
        if pin not in home:
            own = sorted(piece_of(near, pin))
            for other in own:
                home[other] = len(pins)
            pins.append(own)
    switches = [[] for _ in pins]
    for switch in box.switches:
        switches[home[switch[0]]].append(switch)
    return [Piece(box.sides, own, some) for own, some in zip(switches, pins)]


class Reach:
    """The greatest loads of each piece of a box with their ways, and the greatest sums of the pieces ahead.

    parts has a dict for each piece, from its greatest loads to ways. steps has a dict more: from the greatest sums of
    the pieces ahead to the pair of the sum and the piece's load that make it.
    """

    def __init__(self, box):
        self.many = len(side_pairs(box.sides))
        self.guard = guards(self.many)
        self.parts = parts_of(box, self.guard)
        self.steps = [{0: None}]
        for part in self.parts:
            self.steps.append(next_sums(self.steps[-1], list(part), self.guard))

    def is_in_reach(self, load):
        """Whether the box carries the load."""
        return first_over(self.steps[-1], packed(load), self.guard) is not None

    def way_within(self, sides, load):
        """A way with the load; None if there is none."""
        top = first_over(self.steps[-1], packed(load), self.guard)
        if top is None:
            return None
        wires = []
        for k in range(len(self.parts) - 1, -1, -1):
            former, own = self.steps[k + 1][top]
            wires.extend(self.parts[k][own])
            top = former
        return trimmed(sides, wires, load)

    def sums_told(self, step):
        """The ascending list of the greatest sums of so many pieces."""
        return [unpacked(pack, self.many) for pack in sorted(self.steps[step])]


def parts_of(box, guard):
    """For each piece of the box the dict from its greatest loads to ways; TooMany(20000) for more ways of a piece."""
    found = pieces_of(box)
    for piece in found:
        piece.check_ways()
    return [piece.top_ways(guard) for piece in found]


def by_totals(packs):
    """The dict from sums of numbers to the lists of the packed loads that have them."""
    groups = {}
    for pack in packs:
        groups.setdefault(total_of(pack), []).append(pack)
    return groups


def next_sums(ahead, tops, guard):
    """The dict from the greatest sums of a load of ahead and one of tops to a pair that makes them."""
    formers = by_totals(ahead)
    owns = by_totals(tops)
    made = {}
    for former in formers[max(formers)]:
        for own in owns[max(owns)]:
            if former + own not in made:
                made[former + own] = (former, own)
        # These have the greatest sum of all, so none of them is below another one.
        if len(made) > MOST_SUMS:
            raise TooMany(MOST_SUMS)
    if len(formers) == 1 and len(owns) == 1:
        return made
    for former in ahead:
        for own in tops:
            if former + own not in made:
                made[former + own] = (former, own)
    found = greatest_packed(list(made), guard)
    if len(found) > MOST_SUMS:
        raise TooMany(MOST_SUMS)
    return {load: made[load] for load in found}


def trimmed(sides, wires, load):
    """The ascending tuple of the first wires between each pair of sides, as many as the load says."""
    left = list(load)
    kept = []
    for low, high in sorted(wires):
        place = pair_place(sides, low[0], high[0])
        if left[place] > 0:
            left[place] -= 1
            kept.append((low, high))
    return tuple(kept)
