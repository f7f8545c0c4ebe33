"""Boxes: sides with tracks, joined by switches."""

from allcalls.errors import BadBox, BadGone, BadSides, BadSwitches, BadTracks, OtherSides
from allcalls.kinds import is_number, is_tuple_of, is_within, rises

MOST_SIDES = 5
MOST_TRACKS = 6


class Box:
    """A box: so many sides with so many tracks each, and switches between their pins."""

    def __init__(self, sides, tracks, switches):
        check_sides(sides, MOST_SIDES)
        check_tracks(tracks, 1)
        if not is_switch_tuple(sides, tracks, switches):
            raise BadSwitches("switches are an ascending tuple of different switches of these sides and tracks")
        self.sides = sides
        self.tracks = tracks
        self.switches = switches
        # Judging asks again and again whether something is a switch of the box.
        self.known = {switch: True for switch in switches}

    def __eq__(self, other):
        return (
            isinstance(other, Box)
            and self.sides == other.sides
            and self.tracks == other.tracks
            and self.switches == other.switches
        )


def check_sides(sides, most):
    """Raise BadSides unless sides is a number from 2 to most."""
    if not is_within(sides, 2, most):
        raise BadSides(f"sides is a number from 2 to {most}")


def check_tracks(tracks, least):
    """Raise BadTracks unless tracks is a number from least to 6."""
    if not is_within(tracks, least, MOST_TRACKS):
        raise BadTracks(f"tracks is a number from {least} to {MOST_TRACKS}")


def check_box(box):
    """Raise BadBox unless box is a Box."""
    if not isinstance(box, Box):
        raise BadBox("box is a Box")


def is_pin(sides, tracks, thing):
    """Whether thing is a pin of so many sides and tracks."""
    return is_tuple_of(thing, 2) and is_within(thing[0], 0, sides - 1) and is_within(thing[1], 0, tracks - 1)


def is_switch(sides, tracks, thing):
    """Whether thing is a switch of so many sides and tracks."""
    if not is_tuple_of(thing, 2) or not is_tuple_of(thing[0], 2) or not is_tuple_of(thing[1], 2):
        return False
    (side, track), (far, other) = thing
    for number in (side, track, far, other):
        if not isinstance(number, int) or isinstance(number, bool):
            return False
    return 0 <= side < far < sides and 0 <= track < tracks and 0 <= other < tracks


def is_switch_tuple(sides, tracks, thing):
    """Whether thing is an ascending tuple of different switches of so many sides and tracks."""
    if not isinstance(thing, tuple):
        return False
    for item in thing:
        if not is_switch(sides, tracks, item):
            return False
    return rises(thing)


def has_switch(box, thing):
    """Whether any value is a switch of the box."""
    if not is_tuple_of(thing, 2):
        return False
    # True is equal to 1, so all four are judged to be numbers before the switch is looked up.
    for pin in thing:
        if not is_tuple_of(pin, 2) or not is_number(pin[0]) or not is_number(pin[1]):
            return False
    return thing in box.known


def is_lot(box, thing):
    """Whether any value is an ascending tuple of different switches of the box."""
    if not isinstance(thing, tuple):
        return False
    for item in thing:
        if not has_switch(box, item):
            return False
    return rises(thing)


def meet(one, other):
    """Whether two switches have a pin in common."""
    return one[0] in other or one[1] in other


def mate(track, tracks):
    """The mate of a track, or the track itself if it is a last one without a mate."""
    other = track + 1 if track % 2 == 0 else track - 1
    return other if other < tracks else track


def is_joined(kind, tracks, track, other):
    """Whether a box of the kind joins this track of one side and the other track of a later side."""
    if kind == "plain":
        return other == track
    if kind == "crossed":
        return other == mate(track, tracks)
    return True


def built(sides, tracks, kind):
    """The box of the kind: plain, crossed or full."""
    check_sides(sides, MOST_SIDES)
    check_tracks(tracks, 1)
    switches = []
    for side in range(sides):
        for track in range(tracks):
            for far in range(side + 1, sides):
                for other in range(tracks):
                    if is_joined(kind, tracks, track, other):
                        switches.append(((side, track), (far, other)))
    return Box(sides, tracks, tuple(switches))


def plain(sides, tracks):
    """The box that joins each pin to the pins of its own track."""
    return built(sides, tracks, "plain")


def crossed(sides, tracks):
    """The box that joins each pin to its mate's track at each other side."""
    return built(sides, tracks, "crossed")


def full(sides, tracks):
    """The box that joins all pins of unlike sides."""
    return built(sides, tracks, "full")


def shifted(switch, tracks):
    """The switch so many tracks further on."""
    (side, track), (far, other) = switch
    return ((side, track + tracks), (far, other + tracks))


def beside(one, other):
    """One box and, with its tracks behind those of one, the other."""
    check_box(one)
    check_box(other)
    if one.sides != other.sides:
        raise OtherSides("the two boxes have equally many sides")
    switches = list(one.switches) + [shifted(switch, one.tracks) for switch in other.switches]
    # A Box refuses too many tracks.
    return Box(one.sides, one.tracks + other.tracks, tuple(sorted(switches)))


def without(box, gone):
    """The box without the switches that are gone."""
    check_box(box)
    if not is_lot(box, gone):
        raise BadGone("gone is an ascending tuple of different switches of the box")
    away = {switch: True for switch in gone}
    return Box(box.sides, box.tracks, tuple([switch for switch in box.switches if switch not in away]))


def joined_pins(box):
    """The dict from each pin that has a switch to the pins that its switches lead to."""
    near = {}
    for low, high in box.switches:
        near.setdefault(low, []).append(high)
        near.setdefault(high, []).append(low)
    return near


def piece_of(near, pin):
    """The dict of all pins of the pin's piece, near being the joined_pins of the box."""
    seen = {pin: True}
    rest = [pin]
    while rest:
        here = rest.pop()
        for other in near[here]:
            if other not in seen:
                seen[other] = True
                rest.append(other)
    return seen


def pieces(box):
    """The ascending list of the pieces of two pins or more."""
    check_box(box)
    near = joined_pins(box)
    told = {}
    found = []
    for pin in sorted(near):
        if pin not in told:
            piece = sorted(piece_of(near, pin))
            for other in piece:
                told[other] = True
            found.append(tuple(piece))
    return found
