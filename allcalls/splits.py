"""Splits: how a load falls into loads of single tracks, or of two mates, without any box at hand."""

from allcalls.boxes import MOST_SIDES, check_sides
from allcalls.counts import check_load, is_below, is_load_of, let_loads, no_wires, pair_place, raised, side_pairs
from allcalls.counts import summed, sums_at_sides
from allcalls.errors import BadLoad, BadRoom
from allcalls.kinds import is_row, is_within

MOST_PLAIN_SIDES = 4
MOST_ROOM = 99
MOST_LET = 20000


def check_plain_load(sides, load):
    """Raise BadSides, BadLoad unless load is a load of 2 to 4 sides."""
    check_sides(sides, MOST_PLAIN_SIDES)
    check_load(sides, load)


def check_room(room):
    """Raise BadRoom unless room is a number from 0 to 99."""
    if not is_within(room, 0, MOST_ROOM):
        raise BadRoom("room is a number from 0 to 99")


def is_let(sides, load, room):
    """Whether no sum of the load at a side is above room."""
    return max(sums_at_sides(sides, load)) <= room


def triangles(sides):
    """The ascending list of the ascending tuples of three sides."""
    found = []
    for side in range(sides):
        for far in range(side + 1, sides):
            for last in range(far + 1, sides):
                found.append((side, far, last))
    return found


def sum_in_triangle(sides, load, three):
    """The sum of the three numbers of the load between three sides."""
    side, far, last = three
    total = load[pair_place(sides, side, far)] + load[pair_place(sides, side, last)]
    return total + load[pair_place(sides, far, last)]


def need_of(sides, load):
    """The greatest sum of the load at a side or between three sides."""
    sums = sums_at_sides(sides, load) + [sum_in_triangle(sides, load, three) for three in triangles(sides)]
    return max(sums)


def side_sums(sides, load):
    """The tuple of the load's sums at the sides."""
    check_plain_load(sides, load)
    return tuple(sums_at_sides(sides, load))


def triangle_sums(sides, load):
    """The dict from all ascending tuples of three sides to the sums of the load between them."""
    check_plain_load(sides, load)
    return {three: sum_in_triangle(sides, load, three) for three in triangles(sides)}


def plain_need(sides, load):
    """How many plain tracks the load needs."""
    check_plain_load(sides, load)
    return need_of(sides, load)


def pairings(sides):
    """The list of the ways in which a track may join sides: lists of pairs of sides that have no side in common."""
    if sides == 2:
        return [[(0, 1)]]
    if sides == 3:
        return [[(0, 1)], [(0, 2)], [(1, 2)]]
    return [[(0, 1), (2, 3)], [(0, 2), (1, 3)], [(0, 3), (1, 2)]]


def tracks_of(sides, load, pairs):
    """The loads of single tracks for all wires of the load between these pairs, which have no side in common."""
    left = [load[pair_place(sides, side, far)] for side, far in pairs]
    found = []
    for k in range(max(left)):
        track = no_wires(sides)
        for (side, far), number in zip(pairs, left):
            if k < number:
                track = raised(track, pair_place(sides, side, far), 1)
        found.append(track)
    return found


def plain_split(sides, load, room):
    """A list of room loads, each let by 1, whose sum is the load; None if there is none."""
    check_plain_load(sides, load)
    check_room(room)
    found = []
    for pairs in pairings(sides):
        found.extend(tracks_of(sides, load, pairs))
    if len(found) > room:
        return None
    return found + [no_wires(sides)] * (room - len(found))


def plain_bar(sides, load, room):
    """The first side, or else the first three sides, whose sum is above room; None if there is a plain split."""
    check_plain_load(sides, load)
    check_room(room)
    sums = sums_at_sides(sides, load)
    for side in range(sides):
        if sums[side] > room:
            return ("side", side)
    for three in triangles(sides):
        if sum_in_triangle(sides, load, three) > room:
            return ("triangle", three)
    return None


def adds_up(sides, load, rooms, thing):
    """Whether any value is a list of loads, each let by the room at its index, whose sum is the load."""
    if not is_row(thing) or len(thing) != len(rooms):
        return False
    total = no_wires(sides)
    for part, room in zip(thing, rooms):
        if not is_load_of(sides, part) or not is_let(sides, part, room):
            return False
        total = summed(total, part)
    return total == load


def is_plain_split(sides, load, room, thing):
    """Whether any value is a list of room loads, each let by 1, whose sum is the load."""
    check_plain_load(sides, load)
    check_room(room)
    return adds_up(sides, load, [1] * room, thing)


def mates_rooms(room):
    """The list of the rooms of pairs of mates and, behind them, of a last track without a mate."""
    return [2] * (room // 2) + [1] * (room % 2)


def reduced(load, part):
    """The load without the part, number by number."""
    return tuple([number - own for number, own in zip(load, part)])


def is_part(sides, load, part, room):
    """Whether the part lies below the load, and leaves of it what is let by room."""
    return is_below(part, load) and is_let(sides, reduced(load, part), room)


def part_off(sides, load, parts, room):
    """The first of the parts that leaves of the load what is let by room; None if there is none."""
    for part in parts:
        if is_part(sides, load, part, room):
            return part
    return None


def crossed_split(sides, load, room):
    """A list of room // 2 loads let by 2, behind them one let by 1 if room is odd, whose sum is the load."""
    check_sides(sides, MOST_SIDES)
    check_load(sides, load)
    check_room(room)
    if not is_let(sides, load, room):
        return None
    rooms = mates_rooms(room)
    found = []
    left = load
    parts = {own: let_loads(sides, own, MOST_LET) for own in (1, 2)}
    part = None
    # The last one, let by 1, is taken off first: what an even room lets always has a part let by 2 that will do.
    for k in range(len(rooms) - 1, -1, -1):
        rest = room - sum(rooms[k:])
        # A part that did once mostly does again.
        if part is None or rooms[k] != rooms[k + 1] or not is_part(sides, left, part, rest):
            part = part_off(sides, left, parts[rooms[k]], rest)
        left = reduced(left, part)
        found.append(part)
    return found[::-1]


def is_crossed_split(sides, load, room, thing):
    """Whether any value is a list as crossed_split tells."""
    check_sides(sides, MOST_SIDES)
    check_load(sides, load)
    check_room(room)
    return adds_up(sides, load, mates_rooms(room), thing)


def mates_way(sides, load):
    """A way for a load that is let by 2 in the crossed box of two tracks."""
    check_sides(sides, MOST_SIDES)
    check_load(sides, load)
    if not is_let(sides, load, 2):
        raise BadLoad("load is let by 2")
    found = []
    for row in wire_rows(sides, load):
        for side, far in row:
            # Along a row each wire leaves a side by track 0 and comes to the next one on track 1.
            one = (side, 0)
            other = (far, 1)
            found.append((one, other) if one < other else (other, one))
    return tuple(sorted(found))


def wire_rows(sides, load):
    """The wires of a load that is let by 2, each as a pair (from, to) of sides, in rows that go from side to side."""
    left = [[0] * sides for _ in range(sides)]
    for (side, far), number in zip(side_pairs(sides), load):
        left[side][far] = number
        left[far][side] = number
    rows = []
    # Rows that do not come home begin at a side with one wire, so these go first.
    starts = sorted(range(sides), key=lambda one: (sum(left[one]) != 1, one))
    for start in starts:
        row = []
        side = start
        while sum(left[side]) > 0:
            far = [other for other in range(sides) if left[side][other] > 0][0]
            left[side][far] -= 1
            left[far][side] -= 1
            row.append((side, far))
            side = far
        rows.append(row)
    return rows
