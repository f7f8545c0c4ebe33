"""Point 30: whole boxes."""

import random
import unittest

from allcalls.boxes import Box, beside, crossed, full, plain
from allcalls.errors import BadBox, BadFrame
from allcalls.frames import greatest_loads
from allcalls.loads import is_way_for, way_for
from allcalls.wholes import is_whole_paper, missing, whole_paper
from tests.helpers import (any_values, anew, ascending_dict, count_load, every_load, every_way, inside, listed, refuse,
                           some_box, some_frame, too_many, untrue)
from tests.test_frames import tree_box
from tests.test_loads import SUMS_1000, SUMS_1001

A = ((0, 0), (1, 0))
B = ((0, 1), (1, 1))
D = ((1, 1), (2, 1))


def is_whole(box):
    return missing(box, greatest_loads(box.sides, box.tracks)) is None


class Wholes(unittest.TestCase):
    def test_missing(self):
        self.assertEqual(missing(plain(3, 2), greatest_loads(3, 2)), (1, 1, 1))
        self.assertIsNone(missing(crossed(3, 2), greatest_loads(3, 2)))
        self.assertEqual(missing(plain(3, 2), ((1, 1, 1), (3, 0, 0))), (1, 1, 1))
        self.assertEqual(missing(plain(3, 2), ((0, 1, 3), (1, 1, 1))), (0, 0, 3))
        self.assertEqual(missing(Box(2, 1, ()), ((9,),)), (1,))
        self.assertIsNone(missing(Box(2, 1, ()), ((0,),)))

    def test_first_by_sum_then_by_numbers(self):
        # (0, 0, 3) is the lesser one, but (2, 0, 0) has the lesser sum.
        self.assertEqual(missing(Box(3, 2, (A, ((1, 0), (2, 0)), ((1, 1), (2, 1)))), ((0, 0, 3), (2, 0, 0))), (2, 0, 0))
        self.assertEqual(missing(Box(3, 2, ()), ((0, 0, 1), (0, 1, 0), (1, 0, 0))), (0, 0, 1))

    def test_some_boxes(self):
        rnd = random.Random(30)
        for _ in range(80):
            box = some_box(rnd, rnd.randint(2, 4), rnd.randint(1, 3), 9)
            frame = some_frame(rnd, box.sides, 2, 3)
            carried = {count_load(box.sides, way) for way in every_way(box)}
            out = [load for load in every_load(box.sides, 2) if inside(frame, load) and load not in carried]
            first = min(out, key=lambda load: (sum(load), load)) if out else None
            self.assertEqual(missing(box, frame), first)
            paper = whole_paper(box, frame)
            self.assertEqual(paper is None, first is not None)
            if paper is not None:
                self.assertEqual(list(paper), list(frame))
                self.assertIs(is_whole_paper(box, frame, paper), True)
                self.assertTrue(all(is_way_for(box, load, way) for load, way in paper.items()))

    def test_facts(self):
        for sides in range(2, 6):
            for tracks in range(1, 5):
                if sides < 5 or tracks < 4:
                    self.assertIs(is_whole(plain(sides, tracks)), sides == 2 or tracks == 1)
                self.assertIs(is_whole(crossed(sides, tracks)), True)
        for tracks in (5, 6):
            for sides in (2, 3, 4):
                self.assertIs(is_whole(crossed(sides, tracks)), True)
        for sides, one, other in ((3, 2, 3), (4, 2, 1), (4, 3, 2), (5, 2, 1)):
            self.assertIs(is_whole(beside(crossed(sides, one), crossed(sides, other))), True)
        self.assertIs(is_whole(beside(crossed(3, 1), crossed(3, 1))), False)
        for sides, tracks in ((2, 4), (3, 2), (3, 3), (4, 2), (5, 1)):
            self.assertIs(is_whole(full(sides, tracks)), True)

    def test_refusals(self):
        wrong = [((0, 1),), [(0, 0, 1)], ((0, 1, 0), (0, 0, 1)), ((0, 0, 1), (0, 0, 2)), ()] + untrue(((1, 0, 1),))
        for function in (missing, whole_paper):
            refuse(self, function, [plain(3, 2), ((1, 1, 0),)], [BadBox, BadFrame], {1: wrong})
        refuse(self, is_whole_paper, [plain(3, 2), ((1, 1, 0),), None], [BadBox, BadFrame, None], {1: wrong})

    def test_whole_paper(self):
        self.assertEqual(whole_paper(plain(3, 2), ((2, 0, 0),)), {(2, 0, 0): (A, B)})
        self.assertEqual(whole_paper(Box(2, 1, ()), ((0,),)), {(0,): ()})
        self.assertIsNone(whole_paper(plain(3, 2), ((1, 1, 1),)))
        ascending_dict(self, whole_paper(crossed(4, 3), greatest_loads(4, 3)))
        anew(self, whole_paper, crossed(3, 2), greatest_loads(3, 2))

    def test_is_whole_paper(self):
        box, frame = plain(3, 2), ((1, 0, 1), (2, 0, 0))
        right = {(2, 0, 0): (A, B), (1, 0, 1): (A, D)}
        self.assertIs(is_whole_paper(box, frame, right), True)
        wrong = [
            {}, {(2, 0, 0): (A, B)}, {(2, 0, 0): (A, B), (1, 0, 0): (A,)}, {(2, 0, 0): (A, B), (1, 0, 1): (A,)},
            dict(right, **{"x": ()}), {**right, (0, 0, 0): ()}, {(2, 0, 0): [A, B], (1, 0, 1): (A, D)},
            {(2, 0, 0): (B, A), (1, 0, 1): (A, D)}, {(2, 0, 0): None, (1, 0, 1): (A, D)}, list(right.items()),
            {(2, 0, 0): (A, D), (1, 0, 1): (A, B)}, [(2, 0, 0), (1, 0, 1)],
        ]
        for thing in wrong + untrue(right) + listed(right) + any_values():
            self.assertIs(is_whole_paper(box, frame, thing), False, thing)
        self.assertIs(is_whole_paper(box, ((1, 1, 1),), {(1, 1, 1): None}), False)
        # Ways are judged by counting, so nothing is ever too many here.
        self.assertIs(is_whole_paper(full(5, 6), ((1,) + (0,) * 9,), {(1,) + (0,) * 9: (A,)}), True)

    def test_too_many(self):
        zero = ((0,) * 10,)
        for function in (missing, whole_paper):
            function(tree_box(20000), zero)
            too_many(self, 20000, function, tree_box(20001), zero)
            function(SUMS_1000, zero)
            too_many(self, 1000, function, SUMS_1001, zero)
            with self.assertRaises(BadFrame):
                function(tree_box(20001), ())

    def test_too_many_loads(self):
        just, more = ((24, 24, 31),), ((24, 24, 31), (25, 0, 0))
        self.assertEqual(missing(plain(3, 2), just), (0, 0, 3))
        too_many(self, 20000, missing, plain(3, 2), more)
        self.assertIsNone(whole_paper(plain(3, 2), more))
        # The pieces' ways and sums are told of first.
        too_many(self, 1000, missing, SUMS_1001, ((99,) * 10,))
        too_many(self, 20000, missing, SUMS_1000, ((99,) * 10,))
        self.assertIsNone(way_for(plain(3, 2), (24, 24, 31)))


if __name__ == "__main__":
    unittest.main()
