"""What stays when sides are exchanged and, side by side, tracks: over all that has landed."""

import random
import unittest

from allcalls.alikes import turned_box, turned_frame, turned_load, turned_way
from allcalls.boxes import pieces
from allcalls.breakgames import least_break_moves
from allcalls.budgets import budgets, least_budget
from allcalls.dooms import least_moves
from allcalls.frames import standings
from allcalls.likes import first_like
from allcalls.loads import box_frame, way_for
from allcalls.refuges import perils, safe_positions
from allcalls.rules import grade
from allcalls.wholes import missing
from allcalls.worths import worth
from tests.helpers import some_box, some_frame
from tests.test_alikes import some_turn
from tests.test_worths import DEAR


def some_turned(seed, many):
    rnd = random.Random(seed)
    for _ in range(many):
        box = some_box(rnd, rnd.randint(2, 5), rnd.randint(1, 3), 8)
        yield rnd, box, some_frame(rnd, box.sides, 2, 2), some_turn(rnd, box.sides, box.tracks)
    for box, frame, _ in DEAR:
        for _ in range(3):
            yield rnd, box, frame, some_turn(rnd, box.sides, box.tracks)


class Turned(unittest.TestCase):
    def test_what_stays(self):
        whole = 0
        for rnd, box, frame, turn in some_turned(160, 80):
            other, goal = turned_box(box, turn), turned_frame(box, turn, frame)
            self.assertEqual(len(standings(other, goal)), len(standings(box, frame)))
            self.assertEqual(box_frame(other), turned_frame(box, turn, box_frame(box)))
            self.assertEqual(len(pieces(other)), len(pieces(box)))
            one, two = missing(box, frame), missing(other, goal)
            self.assertEqual(one and sum(one), two and sum(two))
            if one is not None:
                self.assertIsNone(way_for(other, turned_load(box, turn, one)))
            self.assertEqual(least_moves(other, goal), least_moves(box, frame))
            self.assertEqual(grade(other, goal)[0], grade(box, frame)[0])
            if box.sides * box.tracks <= 6:
                self.assertEqual(first_like(other), first_like(box))
            if one is None:
                whole += 1
                self.costs(rnd, box, frame, turn, other, goal)
            if len(standings(box, frame)) * len(box.switches) < 200:
                self.breaks(box, frame, turn, other, goal)
        self.assertGreater(whole, 20)

    def costs(self, rnd, box, frame, turn, other, goal):
        self.assertEqual(worth(other, goal), worth(box, frame))
        gain, price = rnd.choice([(1, 6), (1, 4), (1, 2), (12, 72), (rnd.randint(0, 99), rnd.randint(1, 99))])
        self.assertEqual(least_budget(other, goal, gain, price), least_budget(box, frame, gain, price))
        told = {turned_way(box, turn, way): number for way, number in budgets(box, frame, gain, price).items()}
        self.assertEqual(budgets(other, goal, gain, price), told)

    def breaks(self, box, frame, turn, other, goal):
        self.assertEqual(least_break_moves(other, goal, 1), least_break_moves(box, frame, 1))

        def gone_to(place):
            return (turned_way(box, turn, place[1]), turned_lot(box, turn, place[0]))

        def turned_lot(one, by, lot):
            return tuple(sorted(turned_way(one, by, (switch,))[0] for switch in lot))

        safe = sorted((lot, way) for way, lot in map(gone_to, safe_positions(box, frame, 1, 1)))
        self.assertEqual(safe_positions(other, goal, 1, 1), safe)
        ranks = {gone_to(place): rank for place, (rank, _) in perils(box, frame, 1, 1).items()}
        self.assertEqual({(way, lot): rank for (lot, way), (rank, _) in perils(other, goal, 1, 1).items()}, ranks)


if __name__ == "__main__":
    unittest.main()
