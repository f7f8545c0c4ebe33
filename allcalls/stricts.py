"""Strict boxes: whatever free switch is taken, nothing has ever to be moved."""

from allcalls.boxes import has_switch, meet
from allcalls.counts import is_of, is_pair_of_sides, one_more
from allcalls.errors import BadPair
from allcalls.frames import check_frame
from allcalls.kinds import is_tuple_of
from allcalls.ways import Wanted, all_standings, free_between, is_standing_of, load_of, pins_of


def is_wanted(box, frame, way, pair):
    """Whether one wire more between the pair of sides makes a load of the frame of the way's load."""
    return is_of(frame, one_more(box.sides, load_of(box.sides, way), pair))


def is_stuck_for(box, frame, standing, pair):
    """Whether the standing is stuck for the pair of sides."""
    return is_wanted(box, frame, standing, pair) and not free_between(box, standing, pair)


def first_stuck_of(box, frame, ways):
    """The first of all standings, fewest wires first, that is stuck, with its first pair; None if none is."""
    wanted = Wanted(box, frame)
    for way in sorted(ways, key=lambda one: (len(one), one)):
        for pair in wanted.pairs_at(way):
            if not free_between(box, way, pair):
                return (way, pair)
    return None


def first_stuck(box, frame):
    """The first stuck standing, fewest wires first, and the first pair for which it is; None if the box is strict."""
    check_frame(box, frame)
    return first_stuck_of(box, frame, all_standings(box, frame))


def is_stuck(box, frame, thing):
    """Whether any value is a pair of a standing and a pair of sides for which it is stuck."""
    check_frame(box, frame)
    if not is_tuple_of(thing, 2) or not is_standing_of(box, frame, thing[0]):
        return False
    return is_pair_of_sides(box.sides, thing[1]) and is_stuck_for(box, frame, thing[0], thing[1])


def check_pair(box, pair):
    """Raise BadPair unless pair is a pair of sides of the box."""
    if not is_pair_of_sides(box.sides, pair):
        raise BadPair("pair is a pair of sides, the lesser one first")


def met_at(box, way, switch):
    """The ascending list of the switches that meet the switch, itself among them, and none of the way."""
    taken = pins_of(way)
    found = []
    for other in box.switches:
        if meet(other, switch) and other[0] not in taken and other[1] not in taken:
            found.append(other)
    return found


def with_switch(way, switch):
    """The way with the switch, ascending."""
    return tuple(sorted(way + (switch,)))


def tree_behind(box, frame, pair, way):
    """A blocking tree for the pair and the way; some switch is free wherever one is wanted."""
    if not is_wanted(box, frame, way, pair):
        return ("full",)
    choices = [(switch, met_at(box, way, switch)) for switch in free_between(box, way, pair)]
    # Fewer branches make a lesser tree.
    switch, hits = min(choices, key=lambda choice: len(choice[1]))
    return ("part", switch, {hit: tree_behind(box, frame, pair, with_switch(way, hit)) for hit in hits})


def blocking_tree(box, frame, pair):
    """A blocking tree for the pair and the way (); None if some standing is stuck for the pair."""
    check_frame(box, frame)
    check_pair(box, pair)
    for way in all_standings(box, frame):
        if is_stuck_for(box, frame, way, pair):
            return None
    return tree_behind(box, frame, pair, ())


def is_tree_for(box, frame, pair, way, thing):
    """Whether any value is a blocking tree for the pair and the way."""
    if is_tuple_of(thing, 1):
        return thing[0] == "full" and not is_wanted(box, frame, way, pair)
    if not is_tuple_of(thing, 3) or thing[0] != "part" or not isinstance(thing[2], dict):
        return False
    _, switch, trees = thing
    if not has_switch(box, switch) or switch not in free_between(box, way, pair):
        return False
    hits = met_at(box, way, switch)
    if len(trees) != len(hits):
        return False
    for hit, tree in trees.items():
        if not has_switch(box, hit) or hit not in hits:
            return False
        if not is_tree_for(box, frame, pair, with_switch(way, hit), tree):
            return False
    return True


def is_blocking_tree(box, frame, pair, thing):
    """Whether any value is a blocking tree for the pair and the way ()."""
    check_frame(box, frame)
    check_pair(box, pair)
    return is_tree_for(box, frame, pair, (), thing)
