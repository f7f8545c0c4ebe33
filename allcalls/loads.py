"""Which loads a box carries: ways for them, or bars against them."""

from allcalls.boxes import check_box, is_pin, pieces
from allcalls.counts import check_load, no_wires
from allcalls.errors import BadPiece
from allcalls.kinds import is_row, is_tuple_of
from allcalls.packs import first_over, lanes
from allcalls.reach import SPAN, Reach, Wiring, told_wide
from allcalls.ways import is_way_of, load_of

MOST_IN_BAR = 999
# So many bits hold the sums of numbers of bars and of ways, the highest one staying free.
WIDE = 12
WIDE_GUARD = 2048


def check_box_load(box, load):
    """Raise BadBox unless box is a Box, BadLoad unless load is a load of its sides."""
    check_box(box)
    check_load(box.sides, load)


def way_for(box, load):
    """A way of the box with the load; None if there is none."""
    check_box_load(box, load)
    return Reach(box, True).way_within(load)


def is_way_for(box, load, thing):
    """Whether any value is a way of the box with the load."""
    check_box_load(box, load)
    return is_way_of(box, thing) and load_of(box.sides, thing) == load


def piece_loads(box, piece):
    """The frame of all loads of ways within the piece of the box."""
    check_box(box)
    if not is_pin_tuple(box, piece) or piece not in pieces(box):
        raise BadPiece("piece is one of the pieces of the box")
    pins = {pin: True for pin in piece}
    wiring = Wiring(box.sides, [switch for switch in box.switches if switch[0] in pins], SPAN, False)
    wiring.check_ways()
    return tuple(told_wide(wiring.greatest_in(0), wiring.many))


def is_pin_tuple(box, thing):
    """Whether any value is a tuple of pins of the box."""
    if not isinstance(thing, tuple):
        return False
    for pin in thing:
        if not is_pin(box.sides, box.tracks, pin):
            return False
    return True


def box_frame(box):
    """The frame of all loads that the box carries."""
    check_box(box)
    reach = Reach(box, False)
    return tuple(told_wide(reach.steps[-1], reach.many))


def bar(box, load):
    """The bar of the load that has just the greatest sums in its lists; None if the box carries the load."""
    check_box_load(box, load)
    reach = Reach(box, False)
    if reach.is_in_reach(load):
        return None
    return [[no_wires(box.sides)]] + [told_wide(step, reach.many) for step in reach.steps[1:]]


def wide_pack(many, thing):
    """The load as it may stand in bars, packed with 12 bits for each number; None if any value is no such load."""
    if not is_tuple_of(thing, many):
        return None
    found = 0
    for number in thing:
        if not isinstance(number, int) or isinstance(number, bool) or number < 0 or number > MOST_IN_BAR:
            return None
        found = (found << WIDE) | number
    return found


def wide_lists(many, thing):
    """The lists of any value that is a list of lists of such loads, all packed; None if it is none."""
    found = []
    for loads in thing:
        if not is_row(loads):
            return None
        row = [wide_pack(many, load) for load in loads]
        if None in row:
            return None
        found.append(row)
    return found


def leads_on(loads, tops, behind, guard):
    """Whether each sum of one of the loads and one of the tops is below some load of those behind; all are packed."""
    known = {load: True for load in behind}
    for load in loads:
        for top in tops:
            if load + top not in known and first_over(behind, load + top, guard) is None:
                return False
    return True


def is_bar(box, load, thing):
    """Whether any value is a bar of the load in the box."""
    check_box_load(box, load)
    wiring = Wiring(box.sides, box.switches, WIDE, False)
    wiring.check_ways()
    if not is_row(thing) or len(thing) != len(wiring.rows) + 1:
        return False
    lists = wide_lists(len(load), thing)
    # The load of no wires is below any one.
    if lists is None or not lists[0]:
        return False
    guard = lanes(len(load), WIDE, WIDE_GUARD)
    for k in range(len(wiring.rows)):
        if not leads_on(lists[k], wiring.greatest_in(k), lists[k + 1], guard):
            return False
    return first_over(lists[-1], wide_pack(len(load), load), guard) is None
