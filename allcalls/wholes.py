"""Whole boxes: whether a box carries each load of a frame."""

from allcalls.counts import first_loads, is_load_of
from allcalls.errors import TooMany
from allcalls.frames import check_frame
from allcalls.reach import Reach, top_over, way_within
from allcalls.ways import is_way_of, load_of

MOST_LOADS = 20000


def missing(box, frame):
    """The first, by its sum, then by its numbers, of the loads of the frame that the box does not carry."""
    check_frame(box, frame)
    tops = sorted(Reach(box).steps[-1])
    if len(first_loads(frame, MOST_LOADS + 1)) > MOST_LOADS:
        raise TooMany(MOST_LOADS)
    beyond = [load for load in frame if top_over(tops, load) is None]
    if not beyond:
        return None
    # What is not carried lies below a load of the tuple that is not carried.
    for load in sorted(first_loads(beyond, MOST_LOADS), key=lambda one: (sum(one), one)):
        if top_over(tops, load) is None:
            return load
    return None


def whole_paper(box, frame):
    """The dict from the loads of the frame's tuple to ways for them; None unless the box is whole for it."""
    check_frame(box, frame)
    reach = Reach(box)
    paper = {}
    for load in frame:
        way = way_within(box.sides, reach, load)
        if way is None:
            return None
        paper[load] = way
    return paper


def is_whole_paper(box, frame, thing):
    """Whether any value is a dict from just the loads of the frame's tuple to ways of the box for them."""
    check_frame(box, frame)
    if not isinstance(thing, dict) or len(thing) != len(frame):
        return False
    for load, way in thing.items():
        # True is equal to 1, so a key is judged to be a load before it is looked up.
        if not is_load_of(box.sides, load) or load not in frame:
            return False
        if not is_way_of(box, way) or load_of(box.sides, way) != load:
            return False
    return True
