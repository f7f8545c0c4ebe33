"""Which loads a box carries: ways for them, or bars against them."""

from allcalls.boxes import check_box, is_pin, pieces
from allcalls.counts import check_load, is_load_up_to, is_of, no_wires, side_pairs, summed
from allcalls.errors import BadPiece
from allcalls.kinds import is_row
from allcalls.packs import guards, unpacked
from allcalls.reach import Piece, Reach, parts_of
from allcalls.ways import is_way_of, load_of

MOST_IN_BAR = 999


def check_box_load(box, load):
    """Raise BadBox unless box is a Box, BadLoad unless load is a load of its sides."""
    check_box(box)
    check_load(box.sides, load)


def way_for(box, load):
    """A way of the box with the load; None if there is none."""
    check_box_load(box, load)
    return Reach(box).way_within(box.sides, load)


def is_way_for(box, load, thing):
    """Whether any value is a way of the box with the load."""
    check_box_load(box, load)
    return is_way_of(box, thing) and load_of(box.sides, thing) == load


def is_piece(box, thing):
    """Whether any value is a piece of the box."""
    if not isinstance(thing, tuple):
        return False
    for pin in thing:
        if not is_pin(box.sides, box.tracks, pin):
            return False
    return thing in pieces(box)


def piece_loads(box, piece):
    """The frame of all loads of ways within the piece of the box."""
    check_box(box)
    if not is_piece(box, piece):
        raise BadPiece("piece is one of the pieces of the box")
    pins = {pin: True for pin in piece}
    own = Piece(box.sides, [switch for switch in box.switches if switch[0] in pins], piece)
    own.check_ways()
    many = len(side_pairs(box.sides))
    return tuple([unpacked(pack, many) for pack in own.top_ways(guards(many))])


def box_frame(box):
    """The frame of all loads that the box carries."""
    check_box(box)
    reach = Reach(box)
    return tuple(reach.sums_told(len(reach.parts)))


def bar(box, load):
    """The bar of the load that has just the greatest sums in its lists; None if the box carries the load."""
    check_box_load(box, load)
    reach = Reach(box)
    if reach.is_in_reach(load):
        return None
    return [reach.sums_told(step) for step in range(len(reach.steps))]


def is_list_of_loads(sides, thing):
    """Whether any value is a list of loads as they stand in bars."""
    if not is_row(thing):
        return False
    for load in thing:
        if not is_load_up_to(sides, load, MOST_IN_BAR):
            return False
    return True


def leads_on(loads, tops, behind):
    """Whether each sum of one of the loads and one of the tops is below some load of those behind."""
    for load in loads:
        for top in tops:
            if not is_of(behind, summed(load, top)):
                return False
    return True


def is_bar(box, load, thing):
    """Whether any value is a bar of the load in the box."""
    check_box_load(box, load)
    many = len(side_pairs(box.sides))
    tops = [[unpacked(pack, many) for pack in part] for part in parts_of(box, guards(many))]
    if not is_row(thing) or len(thing) != len(tops) + 1:
        return False
    for loads in thing:
        if not is_list_of_loads(box.sides, loads):
            return False
    if not is_of(thing[0], no_wires(box.sides)):
        return False
    for k in range(len(tops)):
        if not leads_on(thing[k], tops[k], thing[k + 1]):
            return False
    return not is_of(thing[-1], load)
