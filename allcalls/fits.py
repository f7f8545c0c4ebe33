"""Fits of a box into another one: sides go to different sides and tracks to different tracks."""

from itertools import permutations
from math import perm

from allcalls.alikes import pair_to, switch_to, way_to
from allcalls.boxes import check_box
from allcalls.counts import is_frame_of, many_pairs, pair_place, side_pairs
from allcalls.dooms import is_doom_of
from allcalls.errors import BadDoom, BadFit, BadFrame, BadKeeping, TooMany
from allcalls.frames import check_moves
from allcalls.keepings import is_keeping_of
from allcalls.kinds import is_number, is_tuple_of
from allcalls.ways import all_standings

MOST_FITS = 20000


def check_boxes(one, other):
    """Raise BadBox unless both are Boxes."""
    check_box(one)
    check_box(other)


def are_different(many, most, thing):
    """Whether any value is a tuple of so many different numbers from 0 to one less than most."""
    if not is_tuple_of(thing, many):
        return False
    for item in thing:
        if not is_number(item) or item < 0 or item >= most:
            return False
    return len({item: True for item in thing}) == many


def is_fit_of(one, other, thing):
    """Whether any value is a fit of one box into the other, the boxes having been checked."""
    if not is_tuple_of(thing, 2) or not are_different(one.sides, other.sides, thing[0]):
        return False
    if not is_tuple_of(thing[1], one.sides):
        return False
    for row in thing[1]:
        if not are_different(one.tracks, other.tracks, row):
            return False
    return are_inside(other, thing, one.switches)


def are_inside(other, fit, switches):
    """Whether each of the switches goes to a switch of the other box."""
    for switch in switches:
        if switch_to(fit, switch) not in other.known:
            return False
    return True


def is_fit(one, other, thing):
    """Whether any value is a fit of one box into the other."""
    check_boxes(one, other)
    return is_fit_of(one, other, thing)


def check_pairs_of_tuples(one, other):
    """Raise TooMany(20000) if there are more pairs of tuples of sides and tuples of tracks."""
    many = perm(other.sides, one.sides)
    for _ in range(one.sides):
        many = many * perm(other.tracks, one.tracks)
    if many > MOST_FITS:
        raise TooMany(MOST_FITS)


def switches_by_side(box):
    """For each side the list of the switches whose later side it is."""
    found = [[] for _ in range(box.sides)]
    for switch in box.switches:
        found[switch[1][0]].append(switch)
    return found


def orders_of(many, chosen):
    """The ascending list of the tuples of so many different numbers out of the first many ones."""
    places = int(chosen)
    numbers = list(range(many))
    return list(permutations(numbers, places))


def rows_from(one, other, sides):
    """The first tuple of tuples of tracks that makes a fit with these sides; None if there is none."""
    groups = switches_by_side(one)
    orders = orders_of(other.tracks, one.tracks)
    rest = [()]
    while rest:
        rows = rest.pop()
        side = len(rows)
        if side > 0 and not are_inside(other, (sides, rows), groups[side - 1]):
            continue
        if side == one.sides:
            return rows
        # What comes first is pushed last.
        rest.extend([rows + (order,) for order in reversed(orders)])
    return None


def first_fit(one, other):
    """The first fit of one box into the other; None if there is none."""
    check_boxes(one, other)
    if one.sides > other.sides or one.tracks > other.tracks:
        return None
    check_pairs_of_tuples(one, other)
    for sides in orders_of(other.sides, one.sides):
        rows = rows_from(one, other, sides)
        if rows is not None:
            return (sides, rows)
    return None


def check_fit(one, other, fit, frame):
    """Raise BadBox, BadFit, BadFrame unless these are two boxes, a fit, and a frame of the first box."""
    check_boxes(one, other)
    if not is_fit_of(one, other, fit):
        raise BadFit("fit is a fit of the one box into the other")
    if not is_frame_of(one.sides, frame):
        raise BadFrame("frame is an ascending tuple of loads of the sides, none below another one")


def load_in(one, other, fit, load):
    """The load of the other box's sides to which a load goes."""
    numbers = [0] * many_pairs(other.sides)
    for pair, number in zip(side_pairs(one.sides), load):
        side, far = pair_to(fit, pair)
        numbers[pair_place(other.sides, side, far)] = number
    return tuple(numbers)


def frame_in(one, other, fit, frame):
    """The frame of the other box's sides to which a frame goes."""
    return tuple(sorted([load_in(one, other, fit, load) for load in frame]))


def fitted_frame(one, other, fit, frame):
    """The frame of the other box to which the frame goes by the fit."""
    check_fit(one, other, fit, frame)
    return frame_in(one, other, fit, frame)


def fitted_keeping(one, other, fit, frame, moves, keeping):
    """The ascending tuple of what the standings of a keeping go to."""
    check_fit(one, other, fit, frame)
    check_moves(moves)
    if not is_keeping_of(one, frame, moves, (), keeping):
        raise BadKeeping("keeping is a keeping of the box and the frame, nothing barred")
    return tuple(sorted([way_to(fit, standing) for standing in keeping]))


def doom_back(one, other, fit, frame, moves, doom):
    """The dict from the standings that go to keys of the doom to their ranks and what goes to its askings."""
    check_fit(one, other, fit, frame)
    check_moves(moves)
    if not is_doom_of(other, frame_in(one, other, fit, frame), moves, (), doom):
        raise BadDoom("doom is a doom of the other box and of what the frame goes to, nothing barred")
    pairs = {pair_to(fit, pair): pair for pair in side_pairs(one.sides)}
    switches = {switch_to(fit, switch): switch for switch in one.switches}
    found = {}
    for standing in all_standings(one, frame):
        goal = way_to(fit, standing)
        if goal in doom:
            rank, asking = doom[goal]
            word, what = asking
            found[standing] = (rank, (word, pairs[what] if word == "want" else switches[what]))
    return found
