"""Point 70: seatings, calls, rows of calls and answers."""

import random
import unittest
from itertools import permutations, product

from allcalls.boxes import Box, full, plain
from allcalls.errors import BadBox, BadCall, BadFrame, BadLoad, BadMany, BadMoves, BadSeating
from allcalls.frames import answers, standings
from allcalls.seats import call_answers, call_rows, calls, is_seating, seated, seatings
from tests.helpers import (any_values, anew, count_load, every_standing, inside, listed, pairs_of, refuse, some_box,
                           some_frame, too_many, untrue, with_one)
from tests.test_frames import tree_box
from tests.test_keepings import EVERY

A = ((0, 0), (1, 0))
B = ((0, 1), (1, 1))
C = ((0, 0), (2, 0))
D = ((1, 1), (2, 1))
E = ((0, 2), (1, 2))
WANT = ("want", (0, 1))

# Boxes and frames with just so many seatings.
SEATED_5000 = Box(3, 6, (
    ((0, 1), (1, 2)), ((0, 2), (2, 1)), ((0, 3), (1, 3)), ((0, 3), (1, 5)), ((0, 3), (2, 5)), ((0, 4), (1, 1)),
    ((0, 4), (2, 1)), ((0, 4), (2, 4)), ((0, 5), (1, 3)), ((0, 5), (1, 5)), ((0, 5), (2, 1)), ((1, 0), (2, 0)),
    ((1, 0), (2, 4)), ((1, 1), (2, 3)), ((1, 2), (2, 1)), ((1, 2), (2, 3)), ((1, 3), (2, 1)), ((1, 3), (2, 2))))
FRAME_5000 = ((4, 1, 3),)
SEATED_5001 = Box(3, 5, (
    ((0, 0), (2, 1)), ((0, 1), (1, 2)), ((0, 1), (2, 3)), ((0, 2), (1, 0)), ((0, 2), (2, 0)), ((0, 3), (1, 4)),
    ((0, 3), (2, 3)), ((0, 4), (1, 2)), ((0, 4), (2, 0)), ((0, 4), (2, 1)), ((0, 4), (2, 2)), ((0, 4), (2, 3)),
    ((1, 0), (2, 4)), ((1, 1), (2, 0)), ((1, 2), (2, 2)), ((1, 2), (2, 4)), ((1, 4), (2, 3)), ((1, 4), (2, 4))))
FRAME_5001 = ((3, 4, 3),)


def every_seating(box, frame):
    """All seatings of a box and a frame, by the orders of the wires of all standings."""
    found = []
    for way in every_standing(box, frame):
        rows = [permutations([wire for wire in way if (wire[0][0], wire[1][0]) == pair])
                for pair in pairs_of(box.sides)]
        found += list(product(*rows))
    return sorted(found)


def flat(seating):
    return tuple(sorted(wire for row in seating for wire in row))


def every_call(sides, frame, load):
    ends = [("end", pair, place) for pair, number in zip(pairs_of(sides), load) for place in range(number)]
    return ends + [("want", pair) for pair in pairs_of(sides) if inside(frame, with_one(sides, load, pair))]


def led(sides, load, call):
    by = 1 if call[0] == "want" else -1
    return tuple(number + by * (pair == call[1]) for pair, number in zip(pairs_of(sides), load))


def every_row(sides, frame, load, many):
    if many == 0:
        return [()]
    return [(call,) + row for call in every_call(sides, frame, load)
            for row in every_row(sides, frame, led(sides, load, call), many - 1)]


def is_answer(sides, moves, seating, call, other):
    """Whether a seating answers the call at another one, by the document's words."""
    own = pairs_of(sides).index(call[1])
    if call[0] == "end":
        rows = [row[:call[2]] + row[call[2] + 1:] if k == own else row for k, row in enumerate(seating)]
        return other == tuple(rows)
    if [len(row) + (k == own) for k, row in enumerate(seating)] != [len(row) for row in other]:
        return False
    return sum(old != new for one, two in zip(seating, other) for old, new in zip(one, two)) <= moves


class Seatings(unittest.TestCase):
    def test_seatings(self):
        self.assertEqual(seatings(plain(2, 2), ((2,),)), [((),), ((A,),), ((A, B),), ((B,),), ((B, A),)])
        self.assertEqual(seatings(Box(3, 1, ()), ((1, 1, 1),)), [((), (), ())])
        self.assertEqual(seatings(plain(3, 2), ((1, 0, 0),)), [((), (), ()), ((A,), (), ()), ((B,), (), ())])
        anew(self, seatings, plain(2, 2), ((2,),))

    def test_some_seatings(self):
        rnd = random.Random(70)
        for _ in range(60):
            box = some_box(rnd, rnd.randint(2, 4), rnd.randint(1, 3), 8)
            frame = some_frame(rnd, box.sides, rnd.choice([1, 2, 3]), 3)
            every = every_seating(box, frame)
            self.assertEqual(seatings(box, frame), every)
            for seating in rnd.sample(every, min(5, len(every))):
                self.assertIs(is_seating(box, frame, seating), True)
                self.assertEqual(seated(box, frame, seating), flat(seating))

    def test_is_seating(self):
        box, frame = plain(3, 2), ((1, 0, 1), (2, 0, 0))
        for thing in (((), (), ()), ((A, B), (), ()), ((B, A), (), ()), ((A,), (), (D,))):
            self.assertIs(is_seating(box, frame, thing), True)
        right = ((B, A), (), ())
        wrong = [(), ((),), ((), ()), ((), (), (), ()), ((A, A), (), ()), ((C,), (), ()), ((), (C,), ()), ((), (A,), ()),
                 ((A,), (), (B,)), (A, (), ()), [(A,), (), ()], ([A], (), ()), ((A,), (), None), ((A, None), (), ()),
                 ((A, B), (), (D,)), ((((0, 0), (1, 1)),), (), ()), {0: ()}, (A, B), ((), (), (D, ((1, 0), (2, 0))))]
        for thing in wrong + untrue(right) + listed(right) + any_values():
            self.assertIs(is_seating(box, frame, thing), False, thing)

    def test_refusals(self):
        box, frame = plain(2, 2), ((2,),)
        refuse(self, seatings, [box, frame], [BadBox, BadFrame], {1: [((1, 1, 1),), [(1,)]]})
        refuse(self, is_seating, [box, frame, None], [BadBox, BadFrame, None])
        wrong = {2: [((A, A),), (A,), [(A,)], ((A,), ()), ((C,),)] + untrue(((B, A),)) + listed(((B, A),))}
        refuse(self, seated, [box, frame, ((B, A),)], [BadBox, BadFrame, BadSeating], wrong)
        wrong = {2: [(3,), (1, 1), [1], (-1,), 1] + untrue((1,)), 3: [-1, 7, "1"]}
        refuse(self, calls, [box, frame, (1,)], [BadBox, BadFrame, BadLoad], wrong)
        refuse(self, call_rows, [box, frame, (1,), 2], [BadBox, BadFrame, BadLoad, BadMany], wrong)

    def test_too_many(self):
        self.assertEqual(len(seatings(SEATED_5000, FRAME_5000)), 5000)
        too_many(self, 5000, seatings, SEATED_5001, FRAME_5001)
        self.assertLess(len(standings(SEATED_5001, FRAME_5001)), 5000)
        too_many(self, 5000, seatings, tree_box(5001), EVERY)
        too_many(self, 5000, seatings, full(2, 6), ((6,),))
        with self.assertRaises(BadFrame):
            seatings(tree_box(5001), ())

    def test_only_seatings_are_counted(self):
        box, frame = full(2, 6), ((6,),)
        self.assertIs(is_seating(box, frame, ((B, A),)), True)
        self.assertEqual(seated(box, frame, ((B, A),)), (A, B))
        self.assertEqual(calls(box, frame, (1,)), [("end", (0, 1), 0), WANT])
        self.assertEqual(len(call_rows(box, frame, (1,), 2)), 4)
        self.assertEqual(len(call_answers(box, frame, 0, ((B, A),), WANT)), 16)


class Calls(unittest.TestCase):
    def test_calls(self):
        box, frame = plain(3, 2), ((1, 0, 1), (2, 0, 0))
        self.assertEqual(calls(box, frame, (0, 0, 0)), [("want", (0, 1)), ("want", (1, 2))])
        self.assertEqual(calls(box, frame, (1, 0, 0)), [("end", (0, 1), 0), ("want", (0, 1)), ("want", (1, 2))])
        self.assertEqual(calls(box, frame, (1, 0, 1)), [("end", (0, 1), 0), ("end", (1, 2), 0)])
        self.assertEqual(calls(box, frame, (2, 0, 0)), [("end", (0, 1), 0), ("end", (0, 1), 1)])
        self.assertEqual(calls(box, ((0, 0, 0),), (0, 0, 0)), [])
        anew(self, calls, box, frame, (1, 0, 0))
        # The box need not carry the load.
        self.assertEqual(calls(Box(2, 1, ()), ((99,),), (99,)), [("end", (0, 1), place) for place in range(99)])

    def test_some_rows(self):
        rnd = random.Random(71)
        for _ in range(60):
            sides = rnd.randint(2, 4)
            box, frame = plain(sides, 1), some_frame(rnd, sides, 2, 3)
            load = tuple(rnd.randint(0, number) for number in rnd.choice(frame))
            self.assertEqual(calls(box, frame, load), every_call(sides, frame, load))
            for many in range(4):
                rows = call_rows(box, frame, load, many)
                self.assertEqual(rows, every_row(sides, frame, load, many))
                self.assertEqual(rows, sorted(rows))

    def test_rows(self):
        box, frame = plain(2, 2), ((2,),)
        end, late = ("end", (0, 1), 0), ("end", (0, 1), 1)
        self.assertEqual(call_rows(box, frame, (0,), 0), [()])
        self.assertEqual(call_rows(box, frame, (0,), 2), [(WANT, end), (WANT, WANT)])
        self.assertEqual(call_rows(box, frame, (2,), 2), [(end, end), (end, WANT), (late, end), (late, WANT)])
        self.assertEqual(call_rows(box, ((0,),), (0,), 0), [()])
        self.assertEqual(call_rows(box, ((0,),), (0,), 6), [])
        self.assertEqual(len(call_rows(box, frame, (0,), 6)), len(every_row(2, frame, (0,), 6)))
        anew(self, call_rows, box, frame, (1,), 2)

    def test_too_many_rows(self):
        box = plain(3, 1)
        self.assertEqual(len(call_rows(box, ((1, 3, 4), (4, 2, 1)), (1, 0, 1), 6)), 20000)
        too_many(self, 20000, call_rows, box, ((0, 3, 3), (3, 1, 3)), (0, 0, 2), 6)
        self.assertEqual(len(every_row(3, ((0, 3, 3), (3, 1, 3)), (0, 0, 2), 6)), 20001)
        too_many(self, 20000, call_rows, plain(5, 1), ((99,) * 10,), (99,) * 10, 2)
        self.assertEqual(len(call_rows(plain(5, 1), ((99,) * 10,), (99,) * 10, 1)), 990)
        with self.assertRaises(BadMany):
            call_rows(plain(5, 1), ((99,) * 10,), (99,) * 10, 7)


class Answers(unittest.TestCase):
    def test_small(self):
        box, frame = plain(2, 3), ((3,),)
        self.assertEqual(call_answers(box, frame, 0, ((B, A),), ("end", (0, 1), 0)), [((A,),)])
        self.assertEqual(call_answers(box, frame, 0, ((B, A),), ("end", (0, 1), 1)), [((B,),)])
        self.assertEqual(call_answers(box, frame, 0, ((B, A),), WANT), [((B, A, E),)])
        self.assertEqual(call_answers(box, frame, 1, ((B, A),), WANT), [((B, A, E),), ((B, E, A),), ((E, A, B),)])
        # Two wires that change places are two that moved.
        self.assertEqual(call_answers(box, frame, 2, ((B, A),), WANT), sorted((row,) for row in permutations((A, B, E))))
        self.assertEqual(call_answers(box, frame, 20, ((),), WANT), [((A,),), ((B,),), ((E,),)])
        self.assertEqual(call_answers(plain(2, 1), ((2,),), 20, ((A,),), WANT), [])
        anew(self, call_answers, box, frame, 1, ((B, A),), WANT)

    def test_places_of_two_pairs(self):
        # The place 1 of the first pair, (0, 1), looks like the pair itself.
        box, frame = plain(3, 3), ((3, 1, 1),)
        every = seatings(box, frame)
        for seating in every:
            for call in every_call(3, frame, count_load(3, flat(seating))):
                told = call_answers(box, frame, 2, seating, call)
                self.assertEqual(told, [other for other in every if is_answer(3, 2, seating, call, other)])

    def test_some_answers(self):
        rnd = random.Random(72)
        for _ in range(100):
            box = some_box(rnd, rnd.randint(2, 4), rnd.randint(1, 3), 9)
            frame = some_frame(rnd, box.sides, rnd.choice([1, 2, 3]), 3)
            every = every_seating(box, frame)
            for seating in rnd.sample(every, min(4, len(every))):
                moves = rnd.choice([0, 1, 2, 3, 20])
                for call in calls(box, frame, count_load(box.sides, flat(seating))):
                    told = call_answers(box, frame, moves, seating, call)
                    self.assertEqual(told, [other for other in every
                                            if is_answer(box.sides, moves, seating, call, other)])
                    way, asking = flat(seating), call
                    if call[0] == "end":
                        row = seating[pairs_of(box.sides).index(call[1])]
                        asking = ("end", row[call[2]])
                    plainly = answers(box, frame, moves, way, asking)
                    self.assertEqual(sorted({flat(other) for other in told}), plainly)

    def test_wrong_calls(self):
        box, frame = plain(3, 2), ((1, 0, 1), (2, 0, 0))
        seating = ((A,), (), ())
        right = [box, frame, 1, seating, ("end", (0, 1), 0)]
        wrong = [("end", (0, 1), 1), ("end", (0, 1), -1), ("end", (0, 2), 0), ("end", (1, 0), 0), ("end", (0, 1)),
                 ("end", A), ("want", (0, 2)), ("want", (1, 0)), ("want", (0, 1), 0), ["want", (0, 1)], ("want",),
                 ("want", [0, 1]), ("end", (0, 1), None), ("end", (0, 1), "0"), ("End", (0, 1), 0), (0, (0, 1)),
                 ("want", (0, 3)), ("end", (0, 1), 0, 0), ("want", None), (plain(2, 1), (0, 1), 0)]
        wrong += untrue(("end", (0, 1), 0)) + untrue(("want", (0, 1))) + listed(("end", (0, 1), 0))
        places = {2: [21], 3: [((), (A,), ()), (A, (), ()), [(A,), (), ()], ((A,),)] + untrue(seating) + listed(seating),
                  4: wrong}
        refuse(self, call_answers, right, [BadBox, BadFrame, BadMoves, BadSeating, BadCall], places)
        self.assertTrue(call_answers(box, frame, 20, seating, ("want", (1, 2))))


if __name__ == "__main__":
    unittest.main()
