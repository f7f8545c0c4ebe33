"""Turns: sides are turned and tracks exchanged, and all that holds of a box holds of the turned one."""

from allcalls.boxes import MOST_SIDES, Box, check_box, check_sides, check_tracks, has_switch
from allcalls.counts import check_load, is_pair_of_sides, pair_place, side_pairs
from allcalls.errors import BadAsking, BadTurn, BadWay
from allcalls.frames import check_frame
from allcalls.kinds import is_number, is_tuple_of
from allcalls.ways import is_way_of


def check_shape(sides, tracks):
    """Raise BadSides, BadTracks unless these are numbers of sides and tracks of a box."""
    check_sides(sides, MOST_SIDES)
    check_tracks(tracks, 1)


def is_order(many, thing):
    """Whether any value is a tuple that has each number below many once."""
    if not is_tuple_of(thing, many):
        return False
    for item in thing:
        if not is_number(item):
            return False
    return sorted(thing) == list(range(many))


def is_turn_of(sides, tracks, thing):
    """Whether any value is a turn, the other arguments having been checked."""
    if not is_tuple_of(thing, 2) or not is_order(sides, thing[0]) or not is_tuple_of(thing[1], sides):
        return False
    for row in thing[1]:
        if not is_order(tracks, row):
            return False
    return True


def check_turn(sides, tracks, turn):
    """Raise BadTurn unless turn is a turn of so many sides and tracks."""
    if not is_turn_of(sides, tracks, turn):
        raise BadTurn("turn is a pair of a tuple of all sides and a tuple of tuples of all tracks")


def check_box_turn(box, turn):
    """Raise BadBox, BadTurn unless turn is a turn of the sides and tracks of a box."""
    check_box(box)
    check_turn(box.sides, box.tracks, turn)


def is_turn(sides, tracks, thing):
    """Whether any value is a turn of so many sides and tracks."""
    check_shape(sides, tracks)
    return is_turn_of(sides, tracks, thing)


def no_turn(sides, tracks):
    """The turn by which each pin goes to itself."""
    check_shape(sides, tracks)
    return (tuple(range(sides)), (tuple(range(tracks)),) * sides)


def turn_back(sides, tracks, turn):
    """The turn by which all comes back."""
    check_shape(sides, tracks)
    check_turn(sides, tracks, turn)
    order = [0] * sides
    rows = [[0] * tracks for _ in range(sides)]
    for side, to in enumerate(turn[0]):
        order[to] = side
        for track, goal in enumerate(turn[1][side]):
            rows[to][goal] = track
    return (tuple(order), tuple([tuple(row) for row in rows]))


def turn_on(sides, tracks, turn, then):
    """The turn that goes as turn and then as then."""
    check_shape(sides, tracks)
    check_turn(sides, tracks, turn)
    check_turn(sides, tracks, then)
    order = []
    rows = []
    for to, row in zip(turn[0], turn[1]):
        order.append(then[0][to])
        rows.append(tuple([then[1][to][track] for track in row]))
    return (tuple(order), tuple(rows))


def pin_to(turn, pin):
    """The pin to which a pin goes."""
    side, track = pin
    return (turn[0][side], turn[1][side][track])


def switch_to(turn, switch):
    """The switch to which a switch goes."""
    one = pin_to(turn, switch[0])
    other = pin_to(turn, switch[1])
    return (one, other) if one < other else (other, one)


def pair_to(turn, pair):
    """The pair of sides to which a pair of sides goes, ascending."""
    one = turn[0][pair[0]]
    other = turn[0][pair[1]]
    return (one, other) if one < other else (other, one)


def way_to(turn, way):
    """The ascending tuple of what the switches go to."""
    return tuple(sorted([switch_to(turn, switch) for switch in way]))


def load_to(sides, turn, load):
    """The load to which a load goes."""
    numbers = [0] * len(load)
    for pair, number in zip(side_pairs(sides), load):
        side, far = pair_to(turn, pair)
        numbers[pair_place(sides, side, far)] = number
    return tuple(numbers)


def turned_box(box, turn):
    """The box to which the box goes."""
    check_box_turn(box, turn)
    return Box(box.sides, box.tracks, way_to(turn, box.switches))


def turned_way(box, turn, way):
    """The way to which a way of the box goes."""
    check_box_turn(box, turn)
    if not is_way_of(box, way):
        raise BadWay("way is an ascending tuple of switches of the box, no two of which meet")
    return way_to(turn, way)


def turned_load(box, turn, load):
    """The load to which a load of the box's sides goes."""
    check_box_turn(box, turn)
    check_load(box.sides, load)
    return load_to(box.sides, turn, load)


def turned_frame(box, turn, frame):
    """The frame to which a frame of the box's sides goes."""
    check_box_turn(box, turn)
    check_frame(box, frame)
    return tuple(sorted([load_to(box.sides, turn, load) for load in frame]))


def turned_asking(box, turn, asking):
    """The asking to which a want of a pair of sides or an end of a switch of the box goes."""
    check_box_turn(box, turn)
    if is_tuple_of(asking, 2) and isinstance(asking[0], str):
        word, what = asking
        if word == "want" and is_pair_of_sides(box.sides, what):
            return (word, pair_to(turn, what))
        if word == "end" and has_switch(box, what):
            return (word, switch_to(turn, what))
    raise BadAsking("asking is a want of a pair of sides or an end of a switch of the box")
