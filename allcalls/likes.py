"""Boxes that are alike: all turns of one box to another one, and all boxes to which a box goes."""

from itertools import permutations
from math import factorial

from allcalls.boxes import Box, check_box, full
from allcalls.errors import OtherShape, TooMany

MOST_TURNS = 20000


def check_turns(box):
    """Raise TooMany(20000) if there are more turns of the sides and tracks of the box."""
    many = factorial(box.sides)
    for _ in range(box.sides):
        many = many * factorial(box.tracks)
    if many > MOST_TURNS:
        raise TooMany(MOST_TURNS)


def check_shapes(one, other):
    """Raise BadBox, OtherShape, TooMany unless these are boxes of the same shape with few enough turns."""
    check_box(one)
    check_box(other)
    if one.sides != other.sides or one.tracks != other.tracks:
        raise OtherShape("the two boxes have equally many sides and equally many tracks")
    check_turns(one)


def all_turns(sides, tracks):
    """The ascending list of all turns of so many sides and tracks."""
    every_side = list(range(sides))
    every_track = list(range(tracks))
    orders = list(permutations(every_track))
    rows = [()]
    for _ in range(sides):
        rows = [row + (order,) for row in rows for order in orders]
    found = []
    for order in permutations(every_side):
        found.extend([(order, row) for row in rows])
    return found


class Images:
    """What a box goes to by turns, each box as a whole number: the first switch of all has the highest bit.

    So of two boxes with equally many switches the one with the greater number comes first.
    """

    def __init__(self, box):
        self.box = box
        self.every = full(box.sides, box.tracks).switches
        many = box.sides * box.tracks
        self.bits = [[0] * many for _ in range(many)]
        bit = 1 << len(self.every)
        for low, high in self.every:
            bit = bit >> 1
            self.bits[self.pin_number(low)][self.pin_number(high)] = bit
            self.bits[self.pin_number(high)][self.pin_number(low)] = bit
        self.wires = [(self.pin_number(low), self.pin_number(high)) for low, high in box.switches]

    def pin_number(self, pin):
        """The place of the pin among all pins."""
        return pin[0] * self.box.tracks + pin[1]

    def own_mark(self):
        """The number of the box itself."""
        return sum([self.bits[one][other] for one, other in self.wires])

    def mark_by(self, turn):
        """The number of the box to which it goes by the turn."""
        goals = []
        for side, row in zip(turn[0], turn[1]):
            first = side * self.box.tracks
            goals.extend([first + track for track in row])
        return sum([self.bits[goals[one]][goals[other]] for one, other in self.wires])

    def box_of(self, mark):
        """The box with the number."""
        top = len(self.every) - 1
        switches = [switch for k, switch in enumerate(self.every) if mark >> (top - k) & 1]
        return Box(self.box.sides, self.box.tracks, tuple(switches))

    def every_mark(self):
        """The list of the numbers of all boxes to which it goes, in the order of the boxes."""
        found = {self.mark_by(turn): True for turn in all_turns(self.box.sides, self.box.tracks)}
        return sorted(found, reverse=True)


def turns(one, other):
    """The ascending list of all turns by which one box goes to the other."""
    check_shapes(one, other)
    images = Images(one)
    goal = Images(other).own_mark()
    return [turn for turn in all_turns(one.sides, one.tracks) if images.mark_by(turn) == goal]


def alike(one, other):
    """The first turn by which one box goes to the other; None if there is none."""
    check_shapes(one, other)
    images = Images(one)
    goal = Images(other).own_mark()
    for turn in all_turns(one.sides, one.tracks):
        if images.mark_by(turn) == goal:
            return turn
    return None


def likes(box):
    """The list of all boxes to which the box goes by turns, each once, ascending by their switches."""
    check_box(box)
    check_turns(box)
    images = Images(box)
    return [images.box_of(mark) for mark in images.every_mark()]


def first_like(box):
    """The first of all boxes to which the box goes by turns."""
    check_box(box)
    check_turns(box)
    images = Images(box)
    return images.box_of(images.every_mark()[0])
