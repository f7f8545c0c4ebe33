"""Pairs of sides, loads and frames, as numbers that are compared and summed."""

from allcalls.errors import BadLoad, TooMany
from allcalls.kinds import is_tuple_of, is_within, rises
from allcalls.packs import first_over, guards, packed

MOST_NUMBER = 99


def side_pairs(sides):
    """The pairs of sides, ascending."""
    return [(side, far) for side in range(sides) for far in range(side + 1, sides)]


def many_pairs(sides):
    """How many pairs of sides there are."""
    return sides * (sides - 1) // 2


def pair_place(sides, side, far):
    """The index of the pair (side, far) among the pairs of sides."""
    return side * (2 * sides - side - 1) // 2 + far - side - 1


def is_pair_of_sides(sides, thing):
    """Whether any value is a pair of sides, the lesser one first."""
    if not is_tuple_of(thing, 2) or not is_within(thing[0], 0, sides - 1):
        return False
    return is_within(thing[1], thing[0] + 1, sides - 1)


def no_wires(sides):
    """The load of no wires."""
    return (0,) * many_pairs(sides)


def is_load_of(sides, thing):
    """Whether any value is a load of so many sides."""
    if not is_tuple_of(thing, many_pairs(sides)):
        return False
    for number in thing:
        if not isinstance(number, int) or isinstance(number, bool) or number < 0 or number > MOST_NUMBER:
            return False
    return True


def check_load(sides, load):
    """Raise BadLoad unless load is a load of the sides."""
    if not is_load_of(sides, load):
        raise BadLoad("load is a tuple of a number from 0 to 99 for each pair of sides")


def is_below(one, other):
    """Whether no number of the one load is greater than that of the other."""
    for low, high in zip(one, other):
        if low > high:
            return False
    return True


def is_of(frame, load):
    """Whether the load is below one of the frame's loads (or of any list of loads)."""
    for top in frame:
        if is_below(load, top):
            return True
    return False


def raised(load, place, by):
    """The load with by more wires between the pair at this place."""
    return load[:place] + (load[place] + by,) + load[place + 1:]


def one_more(sides, load, pair):
    """The load with one wire more between the pair of sides."""
    return raised(load, pair_place(sides, pair[0], pair[1]), 1)


def summed(one, other):
    """The sum of two loads, number by number."""
    return tuple([low + high for low, high in zip(one, other)])


def sums_at_sides(sides, load):
    """The list of the load's sums at the sides."""
    sums = [0] * sides
    for (side, far), number in zip(side_pairs(sides), load):
        sums[side] += number
        sums[far] += number
    return sums


def are_apart(loads):
    """Whether none of these different loads is below another one of them."""
    groups = {}
    for load in loads:
        groups.setdefault(sum(load), []).append(load)
    found = []
    guard = guards(len(loads[0]))
    # Different loads with one sum are never below each other, so each group meets only those with greater sums.
    for total in sorted(groups, reverse=True):
        packs = [packed(load) for load in groups[total]] if len(groups) > 1 else []
        for pack in packs:
            if first_over(found, pack, guard) is not None:
                return False
        found.extend(packs)
    return True


def is_frame_of(sides, thing):
    """Whether any value is a frame of so many sides."""
    if not isinstance(thing, tuple) or len(thing) == 0:
        return False
    for load in thing:
        if not is_load_of(sides, load):
            return False
    return rises(thing) and are_apart(thing)


def let_loads(sides, tracks, most):
    """The ascending list of all loads that so many tracks let; TooMany(most) if there are more."""
    pairs = side_pairs(sides)
    found = []
    rest = [((), [tracks] * sides)]
    while rest:
        load, room = rest.pop()
        if len(load) == len(pairs):
            found.append(load)
            if len(found) > most:
                raise TooMany(most)
            continue
        side, far = pairs[len(load)]
        for number in range(min(room[side], room[far]), -1, -1):
            left = list(room)
            left[side] -= number
            left[far] -= number
            rest.append((load + (number,), left))
    return found


def top_loads(sides, tracks):
    """The ascending list of the loads that so many tracks let with at most one side that could bear more."""
    pairs = side_pairs(sides)
    found = []
    # What is pushed: a beginning of a load, the room at the sides, and whether a side that is done has some left.
    rest = [((), [tracks] * sides, False)]
    while rest:
        load, room, lacks = rest.pop()
        if len(load) == len(pairs):
            if not lacks or room[-1] == 0:
                found.append(load)
            continue
        side, far = pairs[len(load)]
        done = far == sides - 1
        least = room[side] if done and lacks else 0
        for number in range(min(room[side], room[far]), least - 1, -1):
            left = list(room)
            left[side] -= number
            left[far] -= number
            rest.append((load + (number,), left, lacks or (done and left[side] > 0)))
    return found


def first_loads(frame, most):
    """The ascending list of the first so many loads of the frame (of all, if there are no more)."""
    found = []
    rest = [((), list(frame))]
    while rest and len(found) < most:
        load, tops = rest.pop()
        if len(load) == len(frame[0]):
            found.append(load)
            continue
        place = len(load)
        for number in range(max([top[place] for top in tops]), -1, -1):
            rest.append((load + (number,), [top for top in tops if top[place] >= number]))
    return found
