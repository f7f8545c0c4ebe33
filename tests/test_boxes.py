"""Point 10: pins, switches, boxes and their pieces."""

import random
import unittest

from allcalls.boxes import Box, beside, crossed, full, pieces, plain, without
from allcalls.errors import BadBox, BadGone, BadSides, BadSwitches, BadTracks, OtherSides
from tests.helpers import WRONG, any_values, anew, listed, refuse, some_box, untrue

A = ((0, 0), (1, 0))
B = ((0, 1), (1, 1))
C = ((0, 0), (2, 0))

class Boxes(unittest.TestCase):
    def test_attributes(self):
        box = Box(3, 2, (A, C, B))
        self.assertEqual((box.sides, box.tracks, box.switches), (3, 2, (A, C, B)))
        empty = Box(2, 1, ())
        self.assertEqual((empty.sides, empty.tracks, empty.switches), (2, 1, ()))

    def test_ends_of_the_numbers(self):
        for sides in range(2, 6):
            for tracks in range(1, 7):
                Box(sides, tracks, (((0, tracks - 1), (sides - 1, 0)),))
        for sides in (-1, 0, 1, 6, 7, True, None):
            with self.assertRaises(BadSides):
                Box(sides, 1, ())
        for tracks in (-1, 0, 7, 8, True, None):
            with self.assertRaises(BadTracks):
                Box(2, tracks, ())

    def test_wrong_switches(self):
        right = (A, C, B)
        wrong = [
            (A, A), (B, A), [A], list(right), (list(A),), (([0, 0], (1, 0)),), (((0, 0), [1, 0]),),
            (((1, 0), (0, 0)),), (((0, 0), (0, 1)),), (((0, 0), (0, 0)),), (((0, 0), (3, 0)),), (((0, 2), (1, 0)),),
            (((0, 0), (1, 2)),), (((0, 0), (1, -1)),), (((-1, 0), (1, 0)),), (((0, 0, 0), (1, 0)),),
            (((0,), (1, 0)),), ((A[0],),), (A + A,), (A, None), (None, A), (A, 0), ("ab",), A, {A: True},
            (((0, 0), (1, "0")),), (((0, 0), (1, None)),),
        ]
        for thing in wrong + untrue(right) + listed(right):
            with self.assertRaises(BadSwitches):
                Box(3, 2, thing)

    def test_refusals(self):
        refuse(self, Box, [2, 2, (A,)], [BadSides, BadTracks, BadSwitches], {0: [1, 6, 2.0], 1: [0, 7]})
        for function in (plain, crossed, full):
            refuse(self, function, [2, 2], [BadSides, BadTracks], {0: [1, 6, (2,)], 1: [0, 7, "1"]})
        refuse(self, beside, [plain(2, 1), plain(2, 1)], [BadBox, BadBox], {0: [2], 1: [Box]})
        refuse(self, without, [plain(2, 2), (A,)], [BadBox, BadGone], {1: [(C,), (B, A), (A, A), [A], A, {A: A}]})
        refuse(self, pieces, [plain(2, 2)], [BadBox], {0: [Box, ("Box",)]})

    def test_equality(self):
        box = Box(3, 2, (A, C))
        self.assertTrue(box == Box(3, 2, (A, C)))
        self.assertFalse(box != Box(3, 2, (A, C)))
        for other in (Box(4, 2, (A, C)), Box(3, 3, (A, C)), Box(3, 2, (A,)), Box(3, 2, ())):
            self.assertFalse(box == other)
            self.assertTrue(box != other)
        for other in WRONG + any_values() + [(3, 2, (A, C)), "Box", 3]:
            if not isinstance(other, Box):
                self.assertFalse(box == other)
                self.assertFalse(other == box)
                self.assertTrue(box != other)

    def test_plain(self):
        self.assertEqual(plain(2, 2).switches, (A, B))
        self.assertEqual(plain(3, 1).switches, (A, C, ((1, 0), (2, 0))))
        for sides in range(2, 6):
            for tracks in range(1, 7):
                box = plain(sides, tracks)
                self.assertEqual((box.sides, box.tracks), (sides, tracks))
                self.assertEqual(len(box.switches), tracks * sides * (sides - 1) // 2)
                self.assertTrue(all(low[1] == high[1] for low, high in box.switches))

    def test_crossed(self):
        self.assertEqual(crossed(2, 2).switches, (((0, 0), (1, 1)), ((0, 1), (1, 0))))
        self.assertEqual(crossed(2, 3).switches, (((0, 0), (1, 1)), ((0, 1), (1, 0)), ((0, 2), (1, 2))))
        self.assertEqual(crossed(2, 1), plain(2, 1))
        mates = {0: 1, 1: 0, 2: 3, 3: 2, 4: 5, 5: 4}
        for sides in range(2, 6):
            for tracks in range(1, 7):
                box = crossed(sides, tracks)
                self.assertEqual(len(box.switches), tracks * sides * (sides - 1) // 2)
                for low, high in box.switches:
                    other = mates[low[1]] if mates[low[1]] < tracks else low[1]
                    self.assertEqual(high[1], other)

    def test_full(self):
        self.assertEqual(full(2, 2).switches, (A, ((0, 0), (1, 1)), ((0, 1), (1, 0)), B))
        for sides in range(2, 6):
            for tracks in range(1, 7):
                self.assertEqual(len(full(sides, tracks).switches), tracks * tracks * sides * (sides - 1) // 2)

    def test_beside(self):
        self.assertEqual(beside(plain(3, 2), plain(3, 3)), plain(3, 5))
        self.assertEqual(beside(crossed(4, 2), crossed(4, 3)), crossed(4, 5))
        self.assertEqual(beside(plain(2, 1), crossed(2, 2)), Box(2, 3, (A, ((0, 1), (1, 2)), ((0, 2), (1, 1)))))
        self.assertEqual(beside(plain(5, 3), plain(5, 3)).tracks, 6)
        for one, other in ((2, 3), (3, 2), (5, 4)):
            with self.assertRaises(OtherSides):
                beside(plain(one, 6), plain(other, 6))
        for one, other in ((1, 6), (6, 1), (4, 3), (6, 6)):
            with self.assertRaises(BadTracks):
                beside(plain(2, one), plain(2, other))

    def test_without(self):
        box = plain(3, 2)
        self.assertEqual(without(box, ()), box)
        self.assertEqual(without(box, box.switches), Box(3, 2, ()))
        self.assertEqual(without(box, (A, B)).switches, (C, ((0, 1), (2, 1)), ((1, 0), (2, 0)), ((1, 1), (2, 1))))
        self.assertEqual(len(box.switches), 6)
        for gone in untrue((A, B)) + listed((A, B)) + [(((0, 0), (1, 1)),), (A, None), ((A,),)]:
            with self.assertRaises(BadGone):
                without(box, gone)

    def test_pieces(self):
        self.assertEqual(pieces(plain(2, 2)), [A, B])
        self.assertEqual(pieces(plain(3, 1)), [((0, 0), (1, 0), (2, 0))])
        self.assertEqual(pieces(Box(2, 6, ())), [])
        self.assertEqual(pieces(Box(3, 2, (((0, 1), (2, 0)), ((1, 1), (2, 0))))), [((0, 1), (1, 1), (2, 0))])
        self.assertEqual([len(piece) for piece in pieces(crossed(3, 5))], [6, 6, 3])
        self.assertEqual(pieces(crossed(2, 2)), [((0, 0), (1, 1)), ((0, 1), (1, 0))])
        anew(self, pieces, plain(3, 2))

    def test_pieces_of_some_boxes(self):
        rnd = random.Random(10)
        for _ in range(60):
            box = some_box(rnd, rnd.randint(2, 5), rnd.randint(1, 4), 8)
            groups = [{low, high} for low, high in box.switches]
            for switch in box.switches:
                hit = [group for group in groups if group & set(switch)]
                groups = [group for group in groups if not group & set(switch)] + [set().union(*hit)]
            self.assertEqual(pieces(box), sorted(tuple(sorted(group)) for group in groups))


if __name__ == "__main__":
    unittest.main()
