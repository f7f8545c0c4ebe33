"""The fewest switches with which a box carries all loads of a frame, or answers for ever."""

from allcalls.boxes import is_switch, is_switch_tuple
from allcalls.errors import BadNumber, BadSwitches
from allcalls.kinds import is_row, is_tuple_of, is_within
from allcalls.packs import bits_in
from allcalls.wishes import Wish, bits_of, check_few, check_sizes, check_wish

MOST_ASKED = 13


def wish_of(sides, tracks, frame, wish):
    """The Wish, if all are as they are described."""
    check_sizes(sides, tracks, frame)
    check_wish(wish)
    check_few(sides, tracks)
    return Wish(sides, tracks, frame, wish)


def meets(sides, tracks, frame, wish, switches):
    """Whether the box with these switches meets the wish."""
    check_sizes(sides, tracks, frame)
    check_wish(wish)
    if not is_switch_tuple(sides, tracks, switches):
        raise BadSwitches("switches are an ascending tuple of different switches of the full box")
    found = wish_of(sides, tracks, frame, wish)
    return found.meets(found.lot_of(switches))


def fewest_lot(found):
    """A lot with the fewest switches of those that meet a Wish; None if none does."""
    least = [(bits_in(lot), lot) for lot in found.least_met()]
    return min(least)[1] if least else None


def fewest_switches(sides, tracks, frame, wish):
    """The switches of a box that meets the wish, while none with fewer does; None if none does."""
    found = wish_of(sides, tracks, frame, wish)
    lot = fewest_lot(found)
    return None if lot is None else found.switches_of(lot)


def least_lots(sides, tracks, frame, wish):
    """The ascending list of all lots of switches that meet the wish, but not without any one of their switches."""
    found = wish_of(sides, tracks, frame, wish)
    return sorted([found.switches_of(lot) for lot in found.least_met()])


def great_lots(sides, tracks, frame, wish):
    """The ascending list of all lots of switches that do not meet the wish, but do with any other switch more."""
    found = wish_of(sides, tracks, frame, wish)
    return sorted([found.switches_of(lot) for lot in found.great_unmet()])


class Apart:
    """What a box that meets a wish needs: of each lack, which is what a great lot does not have, some switch.

    lacks: the lacks, each as a lot, the smallest ones first. most: for each lot the greatest number of lacks within it
    no two of which have a switch in common.
    """

    def __init__(self, found):
        self.found = found
        self.lacks = sorted([found.whole ^ lot for lot in found.great_unmet()], key=bits_in)
        lowest = {1 << k: [] for k in range(len(found.every))}
        for lack in self.lacks:
            lowest[lack & -lack].append(lack)
        self.most = [0]
        for lot in range(1, found.whole + 1):
            low = lot & -lot
            inside = [self.most[lot ^ lack] + 1 for lack in lowest[low] if not lack & ~lot]
            self.most.append(max([self.most[lot ^ low]] + inside))

    def apart_in(self, lot):
        """The list of as many lacks within the lot as can be, no two of which have a switch in common."""
        rest = lot
        chosen = []
        for lack in self.lacks:
            if not lack & ~rest and self.most[rest ^ lack] + 1 == self.most[rest]:
                chosen.append(lack)
                rest = rest ^ lack
        return chosen

    def great_lot(self, lack):
        """The great lot that lacks just these switches."""
        return self.found.switches_of(self.found.whole ^ lack)

    def tree(self, taken, number):
        """A short tree for the taken switches and the number."""
        rest = self.found.whole ^ taken
        if self.most[rest] + bits_in(taken) >= number:
            return [self.great_lot(lack) for lack in self.apart_in(rest)]
        lack = [one for one in self.lacks if not one & taken][0]
        trees = {self.found.switches_of(bit)[0]: self.tree(taken | bit, number) for bit in bits_of(lack)}
        return (self.great_lot(lack), trees)


def tree_for(found, number):
    """A short tree of a Wish for no switches and the number; None if a box with fewer switches meets it."""
    lot = fewest_lot(found)
    if lot is None:
        return (found.every, {})
    return None if bits_in(lot) < number else Apart(found).tree(0, number)


def check_short(number):
    """Raise BadNumber unless number is a number from 0 to 13."""
    if not is_within(number, 0, MOST_ASKED):
        raise BadNumber("number is a number from 0 to 13")


def short_tree(sides, tracks, frame, wish, number):
    """A short tree for no switches and the number; None if a box with fewer switches meets the wish."""
    check_sizes(sides, tracks, frame)
    check_wish(wish)
    check_short(number)
    return tree_for(wish_of(sides, tracks, frame, wish), number)


class ShortJudge:
    """What is needed to judge short trees of a Wish for a number."""

    def __init__(self, sides, tracks, found, number):
        self.sides = sides
        self.tracks = tracks
        self.found = found
        self.number = number

    def lack_of(self, taken, thing):
        """What any value lacks if it has all that are taken and does not meet the wish; None if it is no such tuple."""
        if not is_switch_tuple(self.sides, self.tracks, thing):
            return None
        lot = self.found.lot_of(thing)
        return None if taken & ~lot or self.found.meets(lot) else self.found.whole ^ lot

    def are_apart(self, taken, thing):
        """Whether any value is a list of enough such tuples, no switch being missing in two of them."""
        if not is_row(thing) or len(thing) + bits_in(taken) < self.number:
            return False
        missing = 0
        for item in thing:
            lack = self.lack_of(taken, item)
            if lack is None or lack & missing:
                return False
            missing = missing | lack
        return True

    def is_tree(self, taken, thing):
        """Whether any value is a short tree for the taken switches."""
        if not is_tuple_of(thing, 2) or not isinstance(thing[1], dict):
            return self.are_apart(taken, thing)
        great, trees = thing
        lack = self.lack_of(taken, great)
        if lack is None or len(trees) != bits_in(lack):
            return False
        for switch, tree in trees.items():
            if not is_switch(self.sides, self.tracks, switch):
                return False
            bit = self.found.lot_of([switch])
            if not bit & lack or not self.is_tree(taken | bit, tree):
                return False
        return True


def is_short_tree(sides, tracks, frame, wish, number, thing):
    """Whether any value is a short tree for no switches and the number."""
    check_sizes(sides, tracks, frame)
    check_wish(wish)
    check_short(number)
    found = wish_of(sides, tracks, frame, wish)
    return ShortJudge(sides, tracks, found, number).is_tree(0, thing)
