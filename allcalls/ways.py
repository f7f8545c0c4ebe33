"""Ways and standings of a box, what may be asked at them, and how it is answered: nothing is checked here."""

from itertools import combinations

from allcalls.boxes import has_switch, is_lot
from allcalls.counts import is_of, is_pair_of_sides, one_more, pair_place, side_pairs
from allcalls.errors import TooMany
from allcalls.kinds import is_tuple_of
from allcalls.packs import first_over, guards, packed, unit

MOST_STANDINGS = 5000


def is_way_of(box, thing):
    """Whether any value is a way of the box."""
    if not is_lot(box, thing):
        return False
    taken = {}
    for low, high in thing:
        if low in taken or high in taken:
            return False
        taken[low] = True
        taken[high] = True
    return True


def load_of(sides, way):
    """The load of a way: how many of its switches lie between each pair of sides."""
    numbers = [0] * len(side_pairs(sides))
    for (side, _), (far, _) in way:
        numbers[pair_place(sides, side, far)] += 1
    return tuple(numbers)


def is_standing_of(box, frame, thing):
    """Whether any value is a standing of the box and the frame."""
    return is_way_of(box, thing) and is_of(frame, load_of(box.sides, thing))


def pins_of(way):
    """The dict of all pins of a way's switches."""
    taken = {}
    for low, high in way:
        taken[low] = True
        taken[high] = True
    return taken


class Growth:
    """Switches that grow to ways, as bits in their order: which ones may still come, by what is there.

    If frame is not None the loads of the ways, which are packed here, are of it. later has, for each switch, those
    behind it that do not meet it.
    """

    def __init__(self, sides, switches, frame):
        pairs = side_pairs(sides)
        self.between = {}
        at_pin = {}
        late = 0
        for k, (low, high) in enumerate(switches):
            bit = 1 << k
            late |= bit
            at_pin[low] = at_pin.get(low, 0) | bit
            at_pin[high] = at_pin.get(high, 0) | bit
            one = unit(len(pairs), pair_place(sides, low[0], high[0]))
            self.between[one] = self.between.get(one, 0) | bit
        self.steps = [unit(len(pairs), pair_place(sides, low[0], high[0])) for low, high in switches]
        self.later = []
        for k, (low, high) in enumerate(switches):
            late ^= 1 << k
            self.later.append(late & ~at_pin[low] & ~at_pin[high])
        self.guard = guards(len(pairs))
        self.tops = None if frame is None else [packed(load) for load in frame]
        self.everything = (1 << len(switches)) - 1
        self.fits = {}
        self.known = {}

    def is_fit(self, pack):
        """Whether the packed load is of the frame."""
        if pack not in self.fits:
            self.fits[pack] = first_over(self.tops, pack, self.guard) is not None
        return self.fits[pack]

    def room(self, pack):
        """The switches between two sides between which the packed load may have one wire more."""
        if self.tops is None:
            return self.everything
        if pack not in self.known:
            found = 0
            for one, lot in self.between.items():
                if self.is_fit(pack + one):
                    found |= lot
            self.known[pack] = found
        return self.known[pack]


def ways_among(sides, switches, frame, most):
    """The ascending list of the ways of these ascending switches, whose loads are of the frame if it is not None.

    TooMany(most) if there are more.
    """
    growth = Growth(sides, switches, frame)
    found = []
    rest = [((), growth.everything, 0)]
    while rest:
        way, free, pack = rest.pop()
        found.append(way)
        if len(found) > most:
            raise TooMany(most)
        left = free & growth.room(pack)
        # The first switch is pushed last, so that the ways come ascending.
        while left:
            k = left.bit_length() - 1
            left ^= 1 << k
            rest.append((way + (switches[k],), free & growth.later[k], pack + growth.steps[k]))
    return found


def all_standings(box, frame):
    """The ascending list of all standings of a box and a frame that were checked before."""
    return ways_among(box.sides, box.switches, frame, MOST_STANDINGS)


def pairs_wanted(sides, frame, load):
    """The ascending list of the pairs of sides between which one wire more is of the frame."""
    return [pair for pair in side_pairs(sides) if is_of(frame, one_more(sides, load, pair))]


class Wanted:
    """The pairs of sides that are wanted at standings of a box and a frame; each load is looked at once."""

    def __init__(self, box, frame):
        self.sides = box.sides
        self.frame = frame
        self.told = {}

    def pairs_at(self, standing):
        """The ascending list of the pairs of sides that are wanted at the standing."""
        load = load_of(self.sides, standing)
        if load not in self.told:
            self.told[load] = pairs_wanted(self.sides, self.frame, load)
        return list(self.told[load])

    def askings_at(self, standing):
        """The ascending list of all askings at the standing."""
        return [("end", switch) for switch in standing] + [("want", pair) for pair in self.pairs_at(standing)]


def is_asking_at(box, frame, standing, thing):
    """Whether any value is an asking at the standing."""
    if not is_tuple_of(thing, 2) or not isinstance(thing[0], str):
        return False
    if thing[0] == "end":
        return has_switch(box, thing[1]) and thing[1] in standing
    if thing[0] != "want" or not is_pair_of_sides(box.sides, thing[1]):
        return False
    return is_of(frame, one_more(box.sides, load_of(box.sides, standing), thing[1]))


def less(way, switch):
    """The way without the switch."""
    return tuple([wire for wire in way if wire != switch])


def free_between(box, way, pair):
    """The ascending list of the switches between the two sides that are free at a way."""
    taken = pins_of(way)
    found = []
    for low, high in box.switches:
        if low[0] == pair[0] and high[0] == pair[1] and low not in taken and high not in taken:
            found.append((low, high))
    return found


def fillings(labels, choices, most):
    """All tuples of one switch of each list of choices, no two of which meet.

    Lists whose labels, one behind the other, are equal are the same; their switches are taken ascending. At most so
    many tuples are told, if most is not None.
    """
    found = []
    rest = [((), 0)]
    while rest and (most is None or len(found) < most):
        chosen, start = rest.pop()
        at = len(chosen)
        if at == len(choices):
            found.append(chosen)
            continue
        taken = pins_of(chosen)
        again = at + 1 < len(choices) and labels[at + 1] == labels[at]
        for k in range(start, len(choices[at])):
            low, high = choices[at][k]
            if low not in taken and high not in taken:
                rest.append((chosen + (choices[at][k],), k + 1 if again else 0))
    return found


def moved_to(box, standing, gone, pairs, most):
    """The standings with one wire more for each of these pairs of sides in which just the switches in gone are missing.

    At most so many of them, if most is not None.
    """
    kept = tuple([wire for wire in standing if wire not in gone])
    wanted = sorted([(low[0], high[0]) for low, high in gone] + pairs)
    # What is missing is moved: it does not come again on its own switch.
    choices = [[wire for wire in free_between(box, kept, two) if wire not in gone] for two in wanted]
    return [tuple(sorted(kept + chosen)) for chosen in fillings(wanted, choices, most)]


def refilled(box, moves, standing, pairs, most):
    """The standings with one wire more for each of these pairs that lack at most so many switches of the standing.

    In no order; at most so many of them, if most is not None.
    """
    wires = list(standing)
    found = []
    for many in range(min(moves, len(wires)) + 1):
        for gone in combinations(wires, many):
            found.extend(moved_to(box, standing, gone, pairs, None if most is None else most - len(found)))
            if most is not None and len(found) >= most:
                return found
    return found


def answers_to(box, moves, standing, asking, most):
    """The answers to an asking at the standing, in no order: at most so many of them, if most is not None."""
    if asking[0] == "end":
        return [less(standing, asking[1])]
    return refilled(box, moves, standing, [asking[1]], most)
