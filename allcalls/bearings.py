"""Bars of partings: how they are made, and how they are judged."""

from allcalls.boxes import has_switch
from allcalls.kinds import is_plain, is_tuple_of, is_within
from allcalls.packs import bits_in
from allcalls.parters import MOST_NUMBER
from allcalls.ways import is_standing_of


def loose_in(parter, items):
    """The switches of the parter that are in none of the items."""
    loose = parter.everything
    for item in items:
        loose &= ~item
    return loose


def bar_nodes(parter, caps):
    """A bar of all switches of the parter by the caps, there being no parting."""
    nodes = {}
    told = {}
    rest = [(0,) * len(caps)]
    while rest:
        items = rest.pop()
        if items in nodes:
            continue
        loose = loose_in(parter, items)
        states = [(cap, item) for cap, item in zip(caps, items)]
        # Equal states in another order have equal numbers.
        name = tuple(sorted(states))
        if name not in told:
            told[name] = parter.numbers(states, loose)
        if told[name] is not None:
            nodes[items] = ("numbers", told[name])
            continue
        rooms = parter.rooms(states, loose)
        bit, _ = parter.scarcest(states, rooms, loose)
        nodes[items] = ("share", parter.wires[bit.bit_length() - 1])
        for at, room in enumerate(rooms):
            if room & bit:
                rest.append(items[:at] + (items[at] | bit,) + items[at + 1:])
    told_nodes = [(told_hold(parter, one), nodes[one]) for one in nodes]
    return {hold: node for hold, node in sorted(told_nodes)}


def told_hold(parter, items):
    """The hold of these items."""
    return tuple([parter.switches_in(item) for item in items])


def heaviest(parter, weights, loose, cap, item):
    """The greatest sum of weights of loose switches that make, with the item, a standing not above the cap."""
    best = 0
    rest = [(item, parter.space(item) & loose, 0)]
    while rest:
        own, space, total = rest.pop()
        best = max(best, total)
        free = [k for k in range(len(weights)) if space >> k & 1 and weights[k] > 0]
        free = sorted(free, key=lambda wire: -weights[wire])
        more = min(cap, parter.greatest_size()) - bits_in(own)
        branches = []
        for at, k in enumerate(free):
            # No more is borne than by the heaviest ones that are left.
            if total + sum([weights[one] for one in free[at:at + more]]) <= best:
                break
            left = space
            for one in free[:at + 1]:
                left &= ~(1 << one)
            branches.append((own | (1 << k), left & parter.space(own | (1 << k)), total + weights[k]))
        rest.extend(branches[::-1])
    return best


class BarJudge:
    """What is needed to judge bars of all switches of a parter by caps; what was found right is known again."""

    def __init__(self, box, frame, parter, caps):
        self.box = box
        self.frame = frame
        self.parter = parter
        self.caps = caps
        self.known = {(): 0}

    def item_told(self, thing):
        """The item that any value tells, which may hold whatever tuples and numbers; None if it is no standing."""
        if thing not in self.known:
            if not is_standing_of(self.box, self.frame, thing):
                return None
            for switch in thing:
                if switch not in self.parter.wires:
                    return None
            self.known[thing] = self.parter.item_of(thing)
        return self.known[thing]

    def items_told(self, thing):
        """The tuple of the items of any value; None if it is no hold."""
        if not is_tuple_of(thing, len(self.caps)) or not is_plain(thing):
            return None
        items = []
        taken = 0
        for standing, cap in zip(thing, self.caps):
            item = self.item_told(standing)
            if item is None or item & taken or bits_in(item) > cap:
                return None
            taken |= item
            items.append(item)
        return tuple(items)

    def is_bar(self, thing):
        """Whether any value is a bar."""
        if not isinstance(thing, dict):
            return False
        nodes = {}
        for hold, node in thing.items():
            items = self.items_told(hold)
            if items is None or not is_tuple_of(node, 2):
                return False
            nodes[items] = node
        if (0,) * len(self.caps) not in nodes:
            return False
        for items in nodes:
            word, what = nodes[items]
            loose = loose_in(self.parter, items)
            if word == "share":
                if not self.is_share(nodes, items, loose, what):
                    return False
            elif word != "numbers" or not self.are_numbers(items, loose, what):
                return False
        return True

    def is_share(self, nodes, items, loose, switch):
        """Whether any value is a loose switch such that wherever there is room for it the hold with it is a key."""
        if not has_switch(self.box, switch) or switch not in self.parter.wires:
            return False
        bit = 1 << self.parter.wires.index(switch)
        if not bit & loose:
            return False
        rooms = self.parter.rooms([(cap, item) for cap, item in zip(self.caps, items)], loose)
        for at, room in enumerate(rooms):
            if room & bit and items[:at] + (items[at] | bit,) + items[at + 1:] not in nodes:
                return False
        return True

    def are_numbers(self, items, loose, numbers):
        """Whether any value has numbers of which the items bear less than all loose switches have."""
        if not is_tuple_of(numbers, len(self.parter.wires)):
            return False
        for number in numbers:
            if not is_within(number, 0, MOST_NUMBER):
                return False
        total = sum([number for k, number in enumerate(numbers) if loose >> k & 1])
        borne = {}
        for state in [(cap, item) for cap, item in zip(self.caps, items)]:
            if state not in borne:
                borne[state] = heaviest(self.parter, numbers, loose, state[0], state[1])
            total -= borne[state]
            if total <= 0:
                return False
        return total > 0
