"""Breaks: which lots of switches break a load or a frame, and what shows that none of so many does."""

from itertools import combinations
from math import comb

from allcalls.boxes import full, has_switch, is_lot
from allcalls.breakers import Breaker, Strengths
from allcalls.counts import is_load_of, is_of, no_wires, raised
from allcalls.errors import BadLot, BadMost, BadNumber, BadSwitch, BadTree, TooMany
from allcalls.finders import Finder
from allcalls.frames import check_frame
from allcalls.kinds import is_plain, is_tuple_of, is_within
from allcalls.loads import check_box_load
from allcalls.lottables import greatest_marked, left_tables
from allcalls.packs import bits_in
from allcalls.tallies import tally_of
from allcalls.ways import is_way_of, load_of

MOST_NUMBER = 30
MOST_SWITCHES = 14
MOST_TREE = 20000
MOST_LOADS = 5000
MOST_MORE = 3
MOST_LOTS = 20000


def check_lot(box, lot):
    """Raise BadLot unless lot is an ascending tuple of different switches of the box."""
    if not is_lot(box, lot):
        raise BadLot("lot is an ascending tuple of different switches of the box")


def check_number(number):
    """Raise BadNumber unless number is a number from 0 to 30."""
    if not is_within(number, 0, MOST_NUMBER):
        raise BadNumber("number is a number from 0 to 30")


def check_few_switches(box):
    """Raise TooMany(14) for a box of more than 14 switches."""
    if len(box.switches) > MOST_SWITCHES:
        raise TooMany(MOST_SWITCHES)


def breaks(box, load, lot):
    """Whether the lot breaks the load."""
    check_box_load(box, load)
    check_lot(box, lot)
    finder = Finder(box)
    return finder.way_with(load, finder.lot_of(lot)) is None


def fewest_breaking(box, load):
    """The first lot, fewest then least, that breaks the load; None if no lot does."""
    check_box_load(box, load)
    finder = Finder(box)
    lot = Breaker(finder, load).fewest()
    return None if lot is None else finder.switches_in(lot)


def breaking_lots(box, load):
    """The ascending list of all lots that break the load, but do not without any one of their switches."""
    check_box_load(box, load)
    check_few_switches(box)
    finder = Finder(box)
    # What such a lot leaves has no way, but has one with any switch more.
    left = greatest_marked(left_tables(finder, [load]).opposite())
    return sorted([finder.switches_in(finder.everything ^ lot) for lot in left])


def is_great_tree(load, number):
    """Whether a tree of the load for the number has more than 20000 ways."""
    many = 1
    ring = 1
    for _ in range(number):
        ring = ring * sum(load)
        many += ring
        if many > MOST_TREE:
            return True
    return False


def check_trees(loads, number):
    """Raise TooMany(20000) if a tree of one of the loads for the number has more ways."""
    for load in loads:
        if is_great_tree(load, number):
            raise TooMany(MOST_TREE)


def tree_without(breaker, gone, number):
    """A tree for the number of the box without the lot gone; no lot of so many more switches breaks the load."""
    way = breaker.way_without(gone)
    switches = breaker.finder.switches_in(way)
    if number == 0:
        return (switches, {})
    bits = breaker.finder.bits
    return (switches, {switch: tree_without(breaker, gone | bits[switch], number - 1) for switch in switches})


def tree_for(finder, load, number):
    """A tree of the load for the number; None if some lot of at most so many switches breaks the load."""
    breaker = Breaker(finder, load)
    return tree_without(breaker, 0, number) if breaker.holds(number) else None


def way_tree(box, load, number):
    """A tree of ways of the load for the number; None if some lot of at most so many switches breaks the load."""
    check_box_load(box, load)
    check_number(number)
    check_trees([load], number)
    return tree_for(Finder(box), load, number)


class TreeJudge:
    """What is needed to judge trees of a load: the ways that were found right before are known again."""

    def __init__(self, box, load):
        self.box = box
        self.load = load
        self.known = {}

    def is_right_way(self, thing, gone):
        """Whether any value is a way with the load that has no switch of the dict gone."""
        if not is_plain(thing):
            return False
        if thing not in self.known:
            if not is_way_of(self.box, thing) or load_of(self.box.sides, thing) != self.load:
                return False
            self.known[thing] = True
        for switch in thing:
            if switch in gone:
                return False
        return True

    def is_tree(self, number, gone, thing):
        """Whether any value is a tree for the number of the box without the switches in the dict gone."""
        if not is_tuple_of(thing, 2) or not self.is_right_way(thing[0], gone) or not isinstance(thing[1], dict):
            return False
        way, trees = thing
        if number == 0:
            return len(trees) == 0
        if len(trees) != len(way):
            return False
        for switch, tree in trees.items():
            if not has_switch(self.box, switch) or switch not in way:
                return False
            less = {one: True for one in gone}
            less[switch] = True
            if not self.is_tree(number - 1, less, tree):
                return False
        return True


def is_way_tree(box, load, number, thing):
    """Whether any value is a tree of ways of the load for the number."""
    check_box_load(box, load)
    check_number(number)
    return TreeJudge(box, load).is_tree(number, {}, thing)


def way_left(box, load, lot, tree):
    """The way that the tree leads to if the switches of the lot are gone."""
    check_box_load(box, load)
    check_lot(box, lot)
    if not TreeJudge(box, load).is_tree(len(lot), {}, tree):
        raise BadTree("tree is a tree of the load for as many switches as the lot has")
    way, trees = tree
    hit = [switch for switch in way if switch in lot]
    while hit:
        way, trees = trees[hit[0]]
        hit = [switch for switch in way if switch in lot]
    return way


def frame_break(box, frame):
    """The pair of the first of the frame's loads that the first lot of all that break one breaks, and the lot."""
    check_frame(box, frame)
    if frame == (no_wires(box.sides),):
        return None
    finder = Finder(box)
    lots = []
    for load in frame:
        lot = Breaker(finder, load).fewest()
        lots.append((bits_in(lot), finder.switches_in(lot), lot))
    _, switches, lot = min(lots)
    for load in frame:
        if finder.way_with(load, lot) is None:
            return (load, switches)
    return None


def are_held(finder, loads, number):
    """Whether no lot of at most so many switches breaks one of the loads."""
    for load in loads:
        if not Breaker(finder, load).holds(number):
            return False
    return True


def holds_through(box, frame, number):
    """Whether no lot of at most so many switches breaks the frame."""
    check_frame(box, frame)
    check_number(number)
    return are_held(Finder(box), frame, number)


def frame_trees(box, frame, number):
    """The dict from the frame's loads to trees of them for the number; None unless holds_through."""
    check_frame(box, frame)
    check_number(number)
    check_trees(frame, number)
    finder = Finder(box)
    trees = {}
    for load in frame:
        tree = tree_for(finder, load, number)
        if tree is None:
            return None
        trees[load] = tree
    return trees


def are_frame_trees(box, frame, number, thing):
    """Whether any value is a dict from the frame's loads to trees of them for the number."""
    check_frame(box, frame)
    check_number(number)
    if not isinstance(thing, dict) or len(thing) != len(frame):
        return False
    for load, tree in thing.items():
        if not is_load_of(box.sides, load) or load not in frame:
            return False
        if not TreeJudge(box, load).is_tree(number, {}, tree):
            return False
    return True


def left_frame(box, frame, lot):
    """The frame of all loads of the frame that the lot does not break."""
    check_frame(box, frame)
    check_lot(box, lot)
    if tally_of(frame, MOST_LOADS) > MOST_LOADS:
        raise TooMany(MOST_LOADS)
    finder = Finder(box)
    gone = finder.lot_of(lot)
    greatest = max([sum(top) for top in frame])
    rings = [{} for _ in range(greatest + 1)]
    for load in frame:
        rings[sum(load)][load] = True
    tops = []
    # Of two loads one below the other the greater one comes first.
    for total in range(len(rings) - 1, -1, -1):
        for load in sorted(rings[total]):
            if is_of(tops, load):
                continue
            if finder.way_with(load, gone) is not None:
                tops.append(load)
                continue
            for place in range(len(load)):
                if load[place] > 0:
                    rings[total - 1][raised(load, place, -1)] = True
    return tuple(sorted(tops))


def showing(finder, table, k):
    """The list of the lots without the switch of number k that do not break what the table tells of, but with it do."""
    bit = 1 << k
    return [finder.everything ^ (lot | bit) for lot in table.less_one(k).both(table.opposite()).marked()]


def matters(box, frame, switch):
    """The first lot, fewest then least, that shows that the switch matters for the frame; None if it does not."""
    check_frame(box, frame)
    if not has_switch(box, switch):
        raise BadSwitch("switch is a switch of the box")
    check_few_switches(box)
    finder = Finder(box)
    lots = showing(finder, left_tables(finder, frame), box.switches.index(switch))
    if not lots:
        return None
    fewest = min([bits_in(lot) for lot in lots])
    return min([finder.switches_in(lot) for lot in lots if bits_in(lot) == fewest])


def spare(box, frame):
    """The ascending tuple of the switches that do not matter for the frame."""
    check_frame(box, frame)
    check_few_switches(box)
    finder = Finder(box)
    table = left_tables(finder, frame)
    return tuple([switch for k, switch in enumerate(box.switches) if not showing(finder, table, k)])


def strengthened(box, frame, number, most):
    """The first lot, fewest then least, of at most so many new switches with which holds_through is so."""
    check_frame(box, frame)
    check_number(number)
    if not is_within(most, 0, MOST_MORE):
        raise BadMost("most is a number from 0 to 3")
    great = full(box.sides, box.tracks)
    new = [switch for switch in great.switches if switch not in box.known]
    if sum([comb(len(new), many) for many in range(most + 1)]) > MOST_LOTS:
        raise TooMany(MOST_LOTS)
    strengths = Strengths(Finder(great), box.switches, frame, number)
    # More switches never hurt, so nothing serves if all of them do not.
    if not strengths.is_enough(new):
        return None
    for many in range(most + 1):
        for lot in combinations(new, many):
            if strengths.is_enough(lot):
                return lot
    return None
