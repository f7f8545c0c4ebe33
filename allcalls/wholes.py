"""Whole boxes: whether a box carries each load of a frame."""

from heapq import heappop, heappush

from allcalls.counts import is_load_of
from allcalls.errors import TooMany
from allcalls.frames import check_frame
from allcalls.packs import first_over
from allcalls.reach import HIGHEST, SPAN, Reach, narrow, told_wide
from allcalls.tallies import tally_of
from allcalls.ways import is_way_of, load_of

MOST_LOADS = 20000


def missing(box, frame):
    """The first, by its sum, then by its numbers, of the loads of the frame that the box does not carry."""
    check_frame(box, frame)
    reach = Reach(box, False)
    if tally_of(frame, MOST_LOADS) > MOST_LOADS:
        raise TooMany(MOST_LOADS)
    # What is not carried lies below a load of the tuple that is not carried.
    beyond = [narrow(load) for load in frame if not reach.is_in_reach(load)]
    return told_wide([first_beyond(reach, beyond)], reach.many)[0] if beyond else None


def first_beyond(reach, beyond):
    """The first packed load, by its sum, then by its numbers, that is below one of beyond and not carried.

    A load is not carried if it has, for each greatest one that is, a number that is above its number there. So
    where it is below one of these, some number is raised just above; the least loads are looked at first.
    """
    # Those that stand side by side are much alike, and what lies below one of them lies above few others.
    tops = reach.steps[-1][1::2] + reach.steps[-1][::2]
    queue = [(0, 0)]
    seen = {0: True}
    while queue:
        total, pack = heappop(queue)
        top = first_over(tops, pack, reach.guard)
        if top is None:
            return pack
        for place in range(reach.many):
            shift = SPAN * place
            by = ((top >> shift) & HIGHEST) - ((pack >> shift) & HIGHEST) + 1
            more = pack + (by << shift)
            if more not in seen and first_over(beyond, more, reach.guard) is not None:
                seen[more] = True
                heappush(queue, (total + by, more))
    return None


def whole_paper(box, frame):
    """The dict from the loads of the frame's tuple to ways for them; None unless the box is whole for it."""
    check_frame(box, frame)
    reach = Reach(box, True)
    paper = {}
    for load in frame:
        way = reach.way_within(load)
        if way is None:
            return None
        paper[load] = way
    return paper


def is_whole_paper(box, frame, thing):
    """Whether any value is a dict from just the loads of the frame's tuple to ways of the box for them."""
    check_frame(box, frame)
    if not isinstance(thing, dict) or len(thing) != len(frame):
        return False
    for load, way in thing.items():
        # True is equal to 1, so a key is judged to be a load before it is looked up.
        if not is_load_of(box.sides, load) or load not in frame:
            return False
        if not is_way_of(box, way) or load_of(box.sides, way) != load:
            return False
    return True
