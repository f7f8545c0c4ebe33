"""How switches are parted into standings with caps: looked for switch by switch, or refuted by numbers.

Standings of the switches in question are whole numbers here, with a bit for each of them, the first one lowest.
"""

from math import gcd

from allcalls.counts import is_of, one_more, side_pairs
from allcalls.mixers import Mixer
from allcalls.packings import Packing
from allcalls.packs import bits_in
from allcalls.ways import load_of

MOST_NUMBER = 999
MOST_LISTED = 5000
# So many states are looked at before numbers are asked whether there is any parting at all.
PATIENCE = 60
MOST_STEPS = 300


class Parter:
    """Some switches of a box within reach of a frame, as bits. wires: the switches."""

    def __init__(self, box, frame, some):
        self.sides = box.sides
        self.frame = frame
        self.wires = list(some)
        self.everything = (1 << len(self.wires)) - 1
        self.between = {pair: 0 for pair in side_pairs(box.sides)}
        at_pin = {}
        for k, (low, high) in enumerate(self.wires):
            at_pin[low] = at_pin.get(low, 0) | (1 << k)
            at_pin[high] = at_pin.get(high, 0) | (1 << k)
            self.between[(low[0], high[0])] |= 1 << k
        self.hits = [at_pin[low] | at_pin[high] for low, high in self.wires]
        self.fits = {}
        self.spaces = {}
        self.lists = []

    def switches_in(self, item):
        """The ascending tuple of the switches of the item."""
        return tuple([wire for k, wire in enumerate(self.wires) if item >> k & 1])

    def item_of(self, switches):
        """The item of these switches, which are of the wires."""
        return sum([1 << k for k, wire in enumerate(self.wires) if wire in switches])

    def fitting(self, load):
        """The switches between two sides between which one wire more makes of the load one of the frame."""
        if load not in self.fits:
            found = 0
            for pair, lot in self.between.items():
                if lot and is_of(self.frame, one_more(self.sides, load, pair)):
                    found |= lot
            self.fits[load] = found
        return self.fits[load]

    def space(self, item):
        """The switches each of which makes, with the item, a standing."""
        if item not in self.spaces:
            found = self.fitting(load_of(self.sides, self.switches_in(item)))
            left = item
            while left:
                bit = left & -left
                found &= ~self.hits[bit.bit_length() - 1]
                left ^= bit
            self.spaces[item] = found
        return self.spaces[item]

    def listed(self):
        """The list of all standings of the wires, each as (item, index of that without its last wire, last wire).

        It ends behind 5001 of them.
        """
        if not self.lists:
            found = [(0, 0, 0)]
            done = 0
            while done < len(found) and len(found) <= MOST_LISTED:
                item = found[done][0]
                free = self.space(item) >> item.bit_length() << item.bit_length()
                while free:
                    bit = free & -free
                    free ^= bit
                    found.append((item | bit, done, bit.bit_length() - 1))
                done += 1
            self.lists = found
        return self.lists

    def is_long(self):
        """Whether there are more than 5000 standings of the wires."""
        return len(self.listed()) > MOST_LISTED

    def rooms(self, states, loose):
        """The list of the loose switches for which there is room in each of the states (cap, item)."""
        return [self.space(item) & loose if bits_in(item) < cap else 0 for cap, item in states]

    def part(self, caps):
        """The list of the items of a parting of all wires by these caps; None if there is none."""
        wide = [at for at in range(len(caps)) if caps[at] > 0]
        # Each wire needs one item at most, and the widest serve best.
        wide = sorted(sorted(wide, key=lambda one: -caps[one])[:len(self.wires)])
        most = self.greatest_size()
        lows = [min(caps[at], most) for at in wide]
        if self.is_short(lows):
            return None
        found = self.search([(low, 0) for low in lows])
        if found is None:
            return None
        items = [0] * len(caps)
        for at, item in zip(wide, found):
            items[at] = item
        return items

    def is_short(self, caps):
        """Whether these caps are too few or too low for all wires, or for those at a pin or between two sides."""
        if sum(caps) < len(self.wires):
            return True
        for mask, most in zip(list(self.between.values()), self.widths()):
            if sum([min(cap, most) for cap in caps]) < bits_in(mask):
                return True
        degrees = {}
        for wire in self.wires:
            for pin in wire:
                degrees[pin] = degrees.get(pin, 0) + 1
        return max(list(degrees.values()) + [0]) > len(caps)

    def widths(self):
        """For each pair of sides a number that no standing of the wires has more switches between the two than."""
        found = []
        for place, mask in enumerate(self.between.values()):
            held = [wire for k, wire in enumerate(self.wires) if mask >> k & 1]
            most = max([top[place] for top in self.frame])
            found.append(min(most, len({low: True for low, _ in held}), len({high: True for _, high in held})))
        return found

    def greatest_size(self):
        """A number that no standing of the wires has more switches than."""
        widths = self.widths()
        pins = {pin: True for wire in self.wires for pin in wire}
        sums = [sum([min(number, width) for number, width in zip(top, widths)]) for top in self.frame]
        return min(len(pins) // 2, max(sums))

    def search(self, start):
        """The items of a parting that begins with these states (cap, item); None if there is none."""
        seen = {}
        rest = [start]
        while rest:
            states = rest.pop()
            loose = self.everything
            for _, item in states:
                loose &= ~item
            if loose == 0:
                return [item for _, item in states]
            name = tuple(sorted(states))
            if name in seen:
                continue
            seen[name] = True
            if len(seen) == PATIENCE:
                if not self.is_long() and self.numbers(start, self.everything) is not None:
                    return None
                mixed = Mixer(self, [cap for cap, _ in start]).mix()
                if mixed is not None:
                    return mixed
            rest.extend(self.branches(states, loose))
        return None

    def branches(self, states, loose):
        """The states that come of these with one switch more, the likeliest last; [] if that cannot lead on."""
        rooms = self.rooms(states, loose)
        most = 0
        for (cap, item), room in zip(states, rooms):
            most += min(cap - bits_in(item), bits_in(room))
        if most < bits_in(loose):
            return []
        places = self.scarcest(states, rooms, loose)
        bit, at_places = places
        found = []
        for at in at_places:
            cap, item = states[at]
            found.append(states[:at] + [(cap, item | bit)] + states[at + 1:])
        return found[::-1]

    def scarcest(self, states, rooms, loose):
        """The pair of the loose switch, as a bit, that has room at the fewest unlike places, and the list of these."""
        firsts = {}
        for at, state in enumerate(states):
            firsts.setdefault(state, at)
        best = None
        left = loose
        while left:
            bit = left & -left
            left ^= bit
            places = [at for at in firsts.values() if rooms[at] & bit]
            if best is None or len(places) < len(best[1]):
                best = (bit, places)
        return best

    def numbers(self, states, loose):
        """Numbers for the wires that show that the loose ones have no places in these states; None if none came."""
        kinds = {}
        for state in states:
            kinds[state] = kinds.get(state, 0) + 1
        bearer = Bearer(self, kinds, loose)
        return bearer.numbers()


class Bearer:
    """Kinds of states (cap, item), how many of each there are, and loose switches that they are to bear."""

    def __init__(self, parter, kinds, loose):
        self.parter = parter
        self.loose = loose
        self.kinds = sorted(kinds)
        self.many = [kinds[state] for state in self.kinds]
        self.wires = [k for k in range(len(parter.wires)) if loose >> k & 1]
        self.row = {k: at for at, k in enumerate(self.wires)}
        self.choices = [self.choices_of(cap, item) for cap, item in self.kinds]

    def choices_of(self, cap, item):
        """The list of the indices of the standings that have the item and at most so many switches, loose besides."""
        barred = self.parter.everything & ~self.loose & ~item
        found = []
        for at, (own, _, _) in enumerate(self.parter.listed()):
            if own & item == item and not own & barred and bits_in(own) <= cap:
                found.append(at)
        return found

    def sums(self, weights):
        """The list of the sums of the weights of all standings; weights has one for each wire."""
        found = [0]
        listed = self.parter.listed()
        for k in range(1, len(listed)):
            _, before, last = listed[k]
            found.append(found[before] + weights[last])
        return found

    def best(self, weights):
        """For each kind the pair of the greatest sum of weights that a state of it bears, and such a standing."""
        sums = self.sums(weights)
        listed = self.parter.listed()
        found = []
        for choices in self.choices:
            at = max(choices, key=lambda one: sums[one])
            found.append((sums[at], listed[at][0]))
        return found

    def is_bar(self, weights, best):
        """Whether all states together bear less than the weights of all loose switches."""
        borne = sum([many * total for many, (total, _) in zip(self.many, best)])
        return borne < sum(weights)

    def numbers(self):
        """Numbers from 0 to 999 for all wires of which the states bear too little; None if none came."""
        packing = Packing([1] * len(self.wires) + self.many)
        for _ in range(MOST_STEPS):
            low = min(packing.prices)
            if low < 0:
                packing.take([packing.prices.index(low)], 0)
                continue
            weights = self.weights(packing)
            best = self.best(weights)
            if self.is_bar(weights, best):
                return self.fitted(weights)
            if not self.pack(packing, weights, best):
                return None
        return None

    def weights(self, packing):
        """What the loose switches are worth above their prices; 0 for all others."""
        found = [0] * len(self.parter.wires)
        for at, k in enumerate(self.wires):
            found[k] = max(0, packing.scale - packing.prices[at])
        return found

    def pack(self, packing, weights, best):
        """Pack the standing that makes the packing better by most; whether there is any."""
        gains = []
        for kind, (total, item) in enumerate(best):
            gains.append((total - packing.prices[len(self.wires) + kind], -kind))
        gain, kind = max(gains)
        if gain <= 0:
            return False
        item = best[-kind][1]
        rows = [self.row[k] for k in self.wires if item >> k & 1 and weights[k] > 0]
        packing.take(rows + [len(self.wires) - kind], len(rows))
        return True

    def fitted(self, weights):
        """The weights in least terms as a tuple of numbers from 0 to 999; None if they do not fit."""
        common = 0
        for weight in weights:
            common = gcd(common, weight)
        found = [weight // common for weight in weights]
        most = max(found)
        if most > MOST_NUMBER:
            found = [weight * MOST_NUMBER // most for weight in found]
            if not self.is_bar(found, self.best(found)):
                return None
        return tuple(found)
