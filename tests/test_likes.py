"""Point 121: boxes that are alike."""

import random
import unittest
from math import factorial

from allcalls.alikes import no_turn, turn_back, turn_on, turned_box, turned_frame
from allcalls.boxes import Box, beside, crossed, full, pieces, plain, without
from allcalls.errors import BadBox, OtherShape
from allcalls.likes import alike, first_like, likes, turns
from tests.helpers import WRONG, anew, refuse, some_box, too_many
from tests.test_alikes import every_turn, some_turn, way_goes

A = ((0, 0), (1, 0))
B = ((0, 1), (1, 1))
C = ((0, 0), (1, 1))
D = ((0, 1), (1, 0))


def many_turns(sides, tracks):
    return factorial(sides) * factorial(tracks) ** sides


def turns_between(one, other):
    """All turns by which one box goes to the other, each looked at."""
    return [turn for turn in every_turn(one.sides, one.tracks) if way_goes(turn, one.switches) == other.switches]


def all_likes(box):
    """The tuples of switches of all boxes that a box goes to."""
    return sorted({way_goes(turn, box.switches) for turn in every_turn(box.sides, box.tracks)})


def some_boxes(seed, many):
    rnd = random.Random(seed)
    shapes = [(2, 1), (2, 2), (2, 3), (3, 1), (3, 2), (3, 3), (4, 1), (5, 1), (4, 2)]
    for _ in range(many):
        sides, tracks = rnd.choice(shapes)
        yield rnd, some_box(rnd, sides, tracks, 9)


class Likes(unittest.TestCase):
    def test_example(self):
        box = plain(2, 2)
        found = turns(box, box)
        self.assertEqual(found, [((0, 1), ((0, 1), (0, 1))), ((0, 1), ((1, 0), (1, 0))), ((1, 0), ((0, 1), (0, 1))),
                                 ((1, 0), ((1, 0), (1, 0)))])
        self.assertEqual(len(every_turn(2, 2)), 8)
        self.assertEqual(likes(box), [box, crossed(2, 2)])
        self.assertEqual(crossed(2, 2).switches, (C, D))
        self.assertEqual(first_like(box), box)
        self.assertEqual(first_like(crossed(2, 2)), box)
        self.assertEqual(alike(box, box), no_turn(2, 2))
        self.assertEqual(alike(box, crossed(2, 2)), ((0, 1), ((0, 1), (1, 0))))
        self.assertIsNone(alike(box, Box(2, 2, (A,))))
        self.assertEqual(turns(box, Box(2, 2, (A, C))), [])
        anew(self, turns, box, box)
        found = likes(box)
        found.pop()
        self.assertEqual(likes(box), [box, crossed(2, 2)])

    def test_some_boxes(self):
        rounds = 0
        for rnd, box in some_boxes(121, 60):
            turn = some_turn(rnd, box.sides, box.tracks)
            other = rnd.choice([turned_box(box, turn), turned_box(box, turn), some_box(rnd, box.sides, box.tracks, 9)])
            found = turns(box, other)
            self.assertEqual(found, turns_between(box, other))
            self.assertEqual(alike(box, other), found[0] if found else None)
            every = likes(box)
            self.assertTrue(all(isinstance(one, Box) for one in every))
            self.assertEqual([one.switches for one in every], all_likes(box))
            self.assertTrue(all((one.sides, one.tracks) == (box.sides, box.tracks) for one in every))
            self.assertEqual(first_like(box), every[0])
            # HEART.
            self.assertEqual(first_like(box) == first_like(other), bool(found))
            self.assertEqual(other in every, bool(found))
            own = turns(box, box)
            self.assertEqual(len(every) * len(own), many_turns(box.sides, box.tracks))
            self.assertIn(len(found), (0, len(own)))
            rounds += bool(found)
        self.assertGreater(rounds, 30)

    def test_turns_to_itself(self):
        for rnd, box in some_boxes(122, 25):
            own = turns(box, box)
            self.assertIn(no_turn(box.sides, box.tracks), own)
            for turn in rnd.sample(own, min(6, len(own))):
                self.assertIn(turn_back(box.sides, box.tracks, turn), own)
                self.assertIn(turn_on(box.sides, box.tracks, turn, rnd.choice(own)), own)

    def test_facts(self):
        for sides, tracks in ((2, 1), (2, 2), (2, 3), (2, 4), (3, 1), (3, 2), (3, 3), (4, 1), (4, 2), (5, 1), (5, 2)):
            same = alike(plain(sides, tracks), crossed(sides, tracks)) is not None
            self.assertEqual(same, sides == 2 or tracks == 1, (sides, tracks))
            whole = full(sides, tracks)
            self.assertEqual(likes(whole), [whole])
            self.assertEqual(len(turns(whole, whole)), many_turns(sides, tracks))
            none = Box(sides, tracks, ())
            self.assertEqual(likes(none), [none])
            self.assertEqual(first_like(none), none)
        for _, box in some_boxes(123, 30):
            for other in likes(box)[:5]:
                self.assertEqual(sorted(map(len, pieces(other))), sorted(map(len, pieces(box))))
                self.assertEqual(len(other.switches), len(box.switches))
                self.assertEqual(first_like(other), first_like(box))

    def test_limits(self):
        # 5 sides and 2 tracks have 3840 turns, 2 sides and 5 tracks 28800, 4 sides and 3 tracks 31104.
        self.assertEqual(len(turns(full(5, 2), full(5, 2))), 3840)
        for sides, tracks in ((2, 5), (2, 6), (3, 4), (4, 3), (5, 3), (5, 6)):
            self.assertGreater(many_turns(sides, tracks), 20000)
            box = plain(sides, tracks)
            too_many(self, 20000, turns, box, Box(sides, tracks, ()))
            too_many(self, 20000, alike, box, box)
            too_many(self, 20000, likes, box)
            too_many(self, 20000, first_like, box)
            with self.assertRaises(OtherShape):
                turns(box, plain(sides, 1))
            with self.assertRaises(OtherShape):
                alike(plain(sides, 1), box)
        for sides, tracks in ((2, 4), (3, 3), (4, 2), (5, 2)):
            self.assertLessEqual(many_turns(sides, tracks), 20000)
            self.assertEqual(alike(plain(sides, tracks), plain(sides, tracks)), no_turn(sides, tracks))

    def test_refusals(self):
        box = plain(2, 2)
        more = {0: [(2, 2, box.switches)], 1: [[box]]}
        for function in (turns, alike):
            refuse(self, function, [box, box], [BadBox, BadBox], more)
            for other in (plain(3, 2), plain(2, 3), plain(2, 1), Box(2, 1, ())):
                with self.assertRaises(OtherShape):
                    function(box, other)
                with self.assertRaises(OtherShape):
                    function(other, box)
            with self.assertRaises(BadBox):
                function(plain(2, 6), WRONG[0])
        for function in (likes, first_like):
            refuse(self, function, [box], [BadBox], more)

    def test_boxes_side_by_side(self):
        # What stands beside may stand on the other tracks as well.
        for one, other in ((plain(2, 2), Box(2, 1, ())), (Box(3, 1, ()), without(plain(3, 1), (A,)))):
            self.assertIsNotNone(alike(beside(one, other), beside(other, one)))
            self.assertEqual(first_like(beside(one, other)), first_like(beside(other, one)))

    def test_frames_go_along(self):
        for rnd, box in some_boxes(124, 10):
            turn = rnd.choice(turns(box, box))
            frame = ((1,) * (box.sides * (box.sides - 1) // 2),)
            self.assertEqual(turned_frame(box, turn, frame), frame)


if __name__ == "__main__":
    unittest.main()
