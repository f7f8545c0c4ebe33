"""How far a box reaches: the loads of its pieces, and their greatest sums."""

from allcalls.boxes import pieces
from allcalls.counts import greatest, is_below, no_wires, pair_place, summed
from allcalls.ways import load_of, ways_among

MOST_WAYS = 20000
MOST_SUMS = 1000


class Reach:
    """The ways of each piece of a box by their loads, and the greatest sums of the pieces, one behind the other.

    parts has a dict for each piece, from the loads of its ways to one of these. steps has a dict more: from the
    greatest sums of the pieces ahead to the pair of the sum and the piece's load that make it.
    """

    def __init__(self, box):
        self.parts = [piece_ways(box, piece) for piece in pieces(box)]
        self.steps = [{no_wires(box.sides): None}]
        for part in self.parts:
            self.steps.append(next_sums(self.steps[-1], greatest(list(part), None)))


def piece_ways(box, piece):
    """The dict from the loads of all ways within a piece to one such way; TooMany(20000) for more ways."""
    pins = {pin: True for pin in piece}
    switches = [switch for switch in box.switches if switch[0] in pins]
    found = {}
    for way in ways_among(box.sides, switches, None, MOST_WAYS):
        found.setdefault(load_of(box.sides, way), way)
    return found


def next_sums(ahead, tops):
    """The dict from the greatest sums of a load of ahead and one of tops to a pair that makes them."""
    made = {}
    for former in ahead:
        for own in tops:
            made.setdefault(summed(former, own), (former, own))
    return {load: made[load] for load in greatest(list(made), MOST_SUMS)}


def top_over(loads, load):
    """The first of the loads that this load is below; None if there is none."""
    for top in loads:
        if is_below(load, top):
            return top
    return None


def trimmed(sides, wires, load):
    """The ascending tuple of the first wires between each pair of sides, as many as the load says."""
    left = list(load)
    kept = []
    for low, high in sorted(wires):
        place = pair_place(sides, low[0], high[0])
        if left[place] > 0:
            left[place] -= 1
            kept.append((low, high))
    return tuple(kept)


def way_within(sides, reach, load):
    """A way with the load, by the reach of a box; None if there is none."""
    top = top_over(reach.steps[-1], load)
    if top is None:
        return None
    wires = []
    for k in range(len(reach.parts) - 1, -1, -1):
        former, own = reach.steps[k + 1][top]
        wires.extend(reach.parts[k][own])
        top = former
    return trimmed(sides, wires, load)
