"""What moves are worth in switches: the fewest switches with no moves, with one, and so on."""

from allcalls.boxes import is_switch_tuple
from allcalls.fewest import ShortJudge, fewest_lot, tree_for
from allcalls.kinds import is_row, is_tuple_of
from allcalls.packs import bits_in
from allcalls.wishes import Wish, check_few, check_sizes


def check_trade(sides, tracks, frame):
    """Raise BadSides, BadTracks, BadFrame, TooMany(12) unless all are as they are described."""
    check_sizes(sides, tracks, frame)
    check_few(sides, tracks)


def trade_lots(sides, tracks, frame):
    """The list of lots with the fewest switches for no moves, one, and so on, up to no more than the loads need."""
    least = fewest_lot(Wish(sides, tracks, frame, ("loads",)))
    found = []
    while least is not None and (not found or bits_in(found[-1]) > bits_in(least)):
        found.append(fewest_lot(Wish(sides, tracks, frame, ("live", len(found)))))
    return found


def trade(sides, tracks, frame):
    """The list of the fewest switches for no moves, one, and so on; [] if no box carries the frame."""
    check_trade(sides, tracks, frame)
    return [bits_in(lot) for lot in trade_lots(sides, tracks, frame)]


def wish_at(sides, tracks, frame, index, many):
    """The Wish that the tree of the pair at the index is for, of so many pairs."""
    return Wish(sides, tracks, frame, ("loads",) if index == many - 1 else ("live", index))


def trade_papers(sides, tracks, frame):
    """Trade papers; None if no box carries the frame."""
    check_trade(sides, tracks, frame)
    lots = trade_lots(sides, tracks, frame)
    if not lots:
        return None
    papers = []
    for index, lot in enumerate(lots):
        found = wish_at(sides, tracks, frame, index, len(lots))
        papers.append((found.switches_of(lot), tree_for(found, bits_in(lot))))
    return papers


def are_trade_papers(sides, tracks, frame, thing):
    """Whether any value is a list of trade papers."""
    check_trade(sides, tracks, frame)
    if not is_row(thing) or len(thing) == 0:
        return False
    for pair in thing:
        if not is_tuple_of(pair, 2) or not is_switch_tuple(sides, tracks, pair[0]):
            return False
    least = len(thing[-1][0])
    for index, (switches, tree) in enumerate(thing):
        if index < len(thing) - 1 and len(switches) <= least:
            return False
        live = Wish(sides, tracks, frame, ("live", index))
        found = wish_at(sides, tracks, frame, index, len(thing))
        if not live.meets(live.lot_of(switches)):
            return False
        if not ShortJudge(sides, tracks, found, len(switches)).is_tree(0, tree):
            return False
    return True
