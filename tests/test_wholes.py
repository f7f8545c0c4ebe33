"""Point 30: whole boxes."""

import random
import unittest
from itertools import product

from allcalls.boxes import Box, beside, crossed, full, plain
from allcalls.errors import BadBox, BadFrame
from allcalls.frames import greatest_loads
from allcalls.loads import is_way_for, way_for
from allcalls.wholes import is_whole_paper, missing, whole_paper
from tests.helpers import (any_values, anew, ascending_dict, count_load, every_load, every_way, inside, listed,
                           pairs_of, refuse, some_box, some_frame, too_many, under, untrue)
from tests.test_frames import tree_box
from tests.test_loads import SUMS_1000, SUMS_1001

A = ((0, 0), (1, 0))
B = ((0, 1), (1, 1))
D = ((1, 1), (2, 1))


def is_whole(box):
    return missing(box, greatest_loads(box.sides, box.tracks)) is None


class Wholes(unittest.TestCase):
    def test_missing(self):
        self.assertEqual(missing(plain(3, 2), greatest_loads(3, 2)), (1, 1, 1))
        self.assertIsNone(missing(crossed(3, 2), greatest_loads(3, 2)))
        self.assertEqual(missing(plain(3, 2), ((1, 1, 1), (3, 0, 0))), (1, 1, 1))
        self.assertEqual(missing(plain(3, 2), ((0, 1, 3), (1, 1, 1))), (0, 0, 3))
        self.assertEqual(missing(Box(2, 1, ()), ((9,),)), (1,))
        self.assertIsNone(missing(Box(2, 1, ()), ((0,),)))

    def test_first_by_sum_then_by_numbers(self):
        # (0, 0, 3) is the lesser one, but (2, 0, 0) has the lesser sum.
        self.assertEqual(missing(Box(3, 2, (A, ((1, 0), (2, 0)), ((1, 1), (2, 1)))), ((0, 0, 3), (2, 0, 0))), (2, 0, 0))
        self.assertEqual(missing(Box(3, 2, ()), ((0, 0, 1), (0, 1, 0), (1, 0, 0))), (0, 0, 1))

    def test_some_boxes(self):
        rnd = random.Random(30)
        for _ in range(80):
            box = some_box(rnd, rnd.randint(2, 4), rnd.randint(1, 3), 9)
            frame = some_frame(rnd, box.sides, 2, 3)
            carried = {count_load(box.sides, way) for way in every_way(box)}
            out = [load for load in every_load(box.sides, 2) if inside(frame, load) and load not in carried]
            first = min(out, key=lambda load: (sum(load), load)) if out else None
            self.assertEqual(missing(box, frame), first)
            paper = whole_paper(box, frame)
            self.assertEqual(paper is None, first is not None)
            if paper is not None:
                self.assertEqual(list(paper), list(frame))
                self.assertIs(is_whole_paper(box, frame, paper), True)
                self.assertTrue(all(is_way_for(box, load, way) for load, way in paper.items()))

    def test_facts(self):
        for sides in range(2, 6):
            for tracks in range(1, 5):
                if sides < 5 or tracks < 4:
                    self.assertIs(is_whole(plain(sides, tracks)), sides == 2 or tracks == 1)
                self.assertIs(is_whole(crossed(sides, tracks)), True)
        for tracks in (5, 6):
            for sides in (2, 3, 4):
                self.assertIs(is_whole(crossed(sides, tracks)), True)
        for sides, one, other in ((3, 2, 3), (4, 2, 1), (4, 3, 2), (5, 2, 1)):
            self.assertIs(is_whole(beside(crossed(sides, one), crossed(sides, other))), True)
        self.assertIs(is_whole(beside(crossed(3, 1), crossed(3, 1))), False)
        for sides, tracks in ((2, 4), (3, 2), (3, 3), (4, 2), (5, 1)):
            self.assertIs(is_whole(full(sides, tracks)), True)

    def test_refusals(self):
        wrong = [((0, 1),), [(0, 0, 1)], ((0, 1, 0), (0, 0, 1)), ((0, 0, 1), (0, 0, 2)), ()] + untrue(((1, 0, 1),))
        for function in (missing, whole_paper):
            refuse(self, function, [plain(3, 2), ((1, 1, 0),)], [BadBox, BadFrame], {1: wrong})
        refuse(self, is_whole_paper, [plain(3, 2), ((1, 1, 0),), None], [BadBox, BadFrame, None], {1: wrong})

    def test_whole_paper(self):
        self.assertEqual(whole_paper(plain(3, 2), ((2, 0, 0),)), {(2, 0, 0): (A, B)})
        self.assertEqual(whole_paper(Box(2, 1, ()), ((0,),)), {(0,): ()})
        self.assertIsNone(whole_paper(plain(3, 2), ((1, 1, 1),)))
        ascending_dict(self, whole_paper(crossed(4, 3), greatest_loads(4, 3)))
        anew(self, whole_paper, crossed(3, 2), greatest_loads(3, 2))

    def test_is_whole_paper(self):
        box, frame = plain(3, 2), ((1, 0, 1), (2, 0, 0))
        right = {(2, 0, 0): (A, B), (1, 0, 1): (A, D)}
        self.assertIs(is_whole_paper(box, frame, right), True)
        wrong = [
            {}, {(2, 0, 0): (A, B)}, {(2, 0, 0): (A, B), (1, 0, 0): (A,)}, {(2, 0, 0): (A, B), (1, 0, 1): (A,)},
            dict(right, **{"x": ()}), {**right, (0, 0, 0): ()}, {(2, 0, 0): [A, B], (1, 0, 1): (A, D)},
            {(2, 0, 0): (B, A), (1, 0, 1): (A, D)}, {(2, 0, 0): None, (1, 0, 1): (A, D)}, list(right.items()),
            {(2, 0, 0): (A, D), (1, 0, 1): (A, B)}, [(2, 0, 0), (1, 0, 1)],
        ]
        for thing in wrong + untrue(right) + listed(right) + any_values():
            self.assertIs(is_whole_paper(box, frame, thing), False, thing)
        self.assertIs(is_whole_paper(box, ((1, 1, 1),), {(1, 1, 1): None}), False)
        # Ways are judged by counting, so nothing is ever too many here.
        self.assertIs(is_whole_paper(full(5, 6), ((1,) + (0,) * 9,), {(1,) + (0,) * 9: (A,)}), True)

    def test_too_many(self):
        zero = ((0,) * 10,)
        for function in (missing, whole_paper):
            function(tree_box(20000), zero)
            too_many(self, 20000, function, tree_box(20001), zero)
            function(SUMS_1000, zero)
            too_many(self, 1000, function, SUMS_1001, zero)
            with self.assertRaises(BadFrame):
                function(tree_box(20001), ())

    def test_too_many_loads(self):
        just, more = ((24, 24, 31),), ((24, 24, 31), (25, 0, 0))
        self.assertEqual(missing(plain(3, 2), just), (0, 0, 3))
        too_many(self, 20000, missing, plain(3, 2), more)
        self.assertIsNone(whole_paper(plain(3, 2), more))
        # The pieces' ways and sums are told of first.
        too_many(self, 1000, missing, SUMS_1001, ((99,) * 10,))
        too_many(self, 20000, missing, SUMS_1000, ((99,) * 10,))
        self.assertIsNone(way_for(plain(3, 2), (24, 24, 31)))


def below(load):
    """All loads below a load."""
    return product(*[range(number + 1) for number in load])


def loads_of_frame(frame):
    return {load for top in frame for load in below(top)}


def let_loads(sides, tracks):
    """All loads that so many tracks let, pair by pair."""
    found = [((), (0,) * sides)]
    for one, two in pairs_of(sides):
        wider = []
        for load, sums in found:
            for number in range(tracks - max(sums[one], sums[two]) + 1):
                more = tuple(own + number * (side in (one, two)) for side, own in enumerate(sums))
                wider.append((load + (number,), more))
        found = wider
    return [load for load, _ in found]


def tops_of(loads):
    """The frame of all these loads, among which are all that are below some of them."""
    return tuple(sorted(load for load in loads if not any(
        load[:place] + (load[place] + 1,) + load[place + 1:] in loads for place in range(len(load)))))


class JustSoManyLoads(unittest.TestCase):
    def test_the_two_calls(self):
        self.assertEqual(missing(plain(3, 2), ((98, 99, 1), (99, 98, 1))), (0, 2, 1))
        too_many(self, 20000, missing, plain(3, 2), ((99, 99, 2),))

    def check(self, box, frame, many):
        """missing is asked of a box with few ways and a frame with so many loads, counted one by one."""
        loads = loads_of_frame(frame)
        self.assertEqual(len(loads), many)
        if many > 20000:
            too_many(self, 20000, missing, box, frame)
            return
        carried = {count_load(box.sides, way) for way in every_way(box)}
        out = [load for load in loads if load not in carried]
        self.assertEqual(missing(box, frame), min(out, key=lambda load: (sum(load), load)) if out else None)

    def test_frames_of_single_loads(self):
        for sides, frame in ((3, ((24, 24, 31),)), (3, ((31, 24, 24),)), (4, ((0, 1, 9, 99, 0, 9),)),
                             (4, ((3, 4, 4, 4, 4, 7),)), (5, ((1, 1, 4, 1, 4, 0, 1, 4, 1, 4),))):
            other = {3: (0, 0, 32), 4: (4, 0, 0, 0, 0, 8), 5: (0,) * 5 + (1,) + (0,) * 4}[sides]
            wider = tuple(sorted(frame + (other,)))
            if sides == 3:
                wider = tuple(sorted(frame + ((0, 0, frame[0][2] + 1),)))
            more = len(loads_of_frame(wider))
            self.assertGreater(more, 20000)
            for box in (plain(sides, 2), crossed(sides, 2), Box(sides, 1, ()), full(sides, 1)):
                self.check(box, frame, 20000)
                self.check(box, wider, more)

    def test_frames_of_two_loads(self):
        for frame in (((98, 99, 1), (99, 98, 1)), ((0, 99, 99), (99, 49, 1)), ((9, 99, 9), (99, 9, 9))):
            self.check(plain(3, 2), frame, len(loads_of_frame(frame)))
        self.assertEqual(len(loads_of_frame(((98, 99, 1), (99, 98, 1)))), 19998)
        for wider, many in ((((98, 99, 1), (99, 98, 1), (99, 99, 0)), 19999),
                            (((0, 0, 2), (98, 99, 1), (99, 98, 1), (99, 99, 0)), 20000),
                            (((0, 0, 2), (99, 99, 1)), 20001), (((0, 0, 3), (99, 99, 1)), 20002)):
            self.check(plain(3, 2), wider, many)
            self.check(crossed(3, 3), wider, many)

    def test_boxes_that_carry_all(self):
        # The tracks of crossed(5, 4) carry all that they let; each further switch carries a wire besides.
        more = [((0, 0), (1, 0)), ((2, 0), (3, 0)), ((0, 1), (4, 0)), ((1, 1), (2, 1))]
        box = beside(crossed(5, 4), Box(5, 2, tuple(sorted(more))))
        carried = set(let_loads(5, 4))
        for one, other in more:
            place = pairs_of(5).index((one[0], other[0]))
            carried |= {load[:place] + (load[place] + 1,) + load[place + 1:] for load in carried}
        ascending = sorted(carried, key=lambda load: (sum(load), load))
        self.assertGreater(len(ascending), 20001)
        for many in (19999, 20000, 20001):
            # The first of all loads that are carried have all with them that are below.
            frame = tops_of(set(ascending[:many]))
            if many > 20000:
                too_many(self, 20000, missing, box, frame)
            else:
                self.assertIsNone(missing(box, frame))
            # One load that is not carried, behind all others.
            if many < 20000:
                last = (0,) * 9 + (5,)
                self.assertEqual(missing(box, tuple(sorted(
                    [load for load in frame if not under(load, last)] + [last]))), (0,) * 9 + (5,))


if __name__ == "__main__":
    unittest.main()
