"""Points 11 to 13: loads, frames, ways, standings, askings and answers."""

import random
import unittest

from allcalls.boxes import Box, crossed, full, plain
from allcalls.errors import (BadAsking, BadBox, BadFrame, BadMoves, BadSides, BadStanding, BadTracks, BadWay)
from allcalls.frames import (answers, askings, greatest_loads, is_frame, is_load, is_standing, is_way, standings,
                             way_load)
from tests.helpers import (any_values, anew, count_load, every_answer, every_asking, every_load, every_standing,
                           every_way, inside, listed, pairs_of, refuse, some_box, some_frame, too_many, under, untrue)

A = ((0, 0), (1, 0))
B = ((0, 1), (1, 1))
C = ((0, 0), (2, 0))
D = ((1, 1), (2, 1))

# A tree of switches with just so many ways: 5000 and 5001.
SPINE = {
    5000: (2, 1, 1, 1, 2, 1, 1, 1, 2, 2, 1, 1, 1, 2),
    5001: (4, 1, 1, 1, 1, 2, 2, 1, 2, 2, 1, 2),
    20000: (3, 1, 2, 2, 1, 1, 1, 1, 2, 1, 2, 2, 1, 3),
    20001: (2, 1, 1, 1, 1, 1, 1, 1, 1, 2, 2, 2, 1, 1, 2, 2),
}


def tree_box(many):
    """A box of one piece with just so many ways: a row of pins, each with one leaf less than its number tells.

    With one pin more there are number * (ways with the pins before) + (ways without the last one) ways.
    """
    pins = [iter([(side, track) for side in range(3) for track in range(6)]),
            iter([(side, track) for side in (3, 4) for track in range(6)])]
    switches = []
    before = None
    for k, number in enumerate(SPINE[many]):
        pin = next(pins[k % 2])
        ends = [next(pins[1 - k % 2]) for _ in range(number - 1)] + ([before] if before else [])
        switches += [tuple(sorted((pin, end))) for end in ends]
        before = pin
    return Box(5, 6, tuple(sorted(switches)))


def let_counted(sides, tracks):
    """How many loads so many tracks let."""
    rooms = {(tracks,) * sides: 1}
    for one, two in pairs_of(sides):
        less = {}
        for room, many in rooms.items():
            for number in range(min(room[one], room[two]) + 1):
                left = tuple(own - number * (side in (one, two)) for side, own in enumerate(room))
                less[left] = less.get(left, 0) + many
        rooms = less
    return sum(rooms.values())


class Loads(unittest.TestCase):
    def test_is_load(self):
        for sides in range(2, 6):
            many = sides * (sides - 1) // 2
            for number in (0, 1, 99):
                self.assertIs(is_load(sides, (number,) * many), True)
            for number in (-1, 100, True, False, None, "1", (1,)):
                self.assertIs(is_load(sides, (0,) * (many - 1) + (number,)), False)
                self.assertIs(is_load(sides, (number,) + (0,) * (many - 1)), False)
            for thing in ((0,) * (many - 1), (0,) * (many + 1), [0] * many):
                self.assertIs(is_load(sides, thing), False)
            for thing in any_values():
                self.assertIs(is_load(sides, thing), False)
        refuse(self, is_load, [2, (1,)], [BadSides, None], {0: [1, 6]})

    def test_is_frame(self):
        for frame in (((0, 0, 0),), ((0, 0, 1), (0, 1, 0)), ((0, 2, 0), (1, 1, 99), (2, 0, 0)), ((99, 99, 99),)):
            self.assertIs(is_frame(3, frame), True)
        wrong = [
            (), [], ((0, 1, 0), (0, 0, 1)), ((0, 0, 1), (0, 0, 1)), ((0, 0, 0), (0, 0, 1)), [(0, 0, 1)],
            ((0, 0, 1), (0, 0, 2)), ((0, 1, 1), (1, 0, 0), (2, 1, 1)), ((0, 0, 100),), ((0, 0),), ([0, 0, 1],),
            (0, 0, 1), ((0, 0, -1),), {(0, 0, 1): True}, ((1, 1, 1), (2, 1, 1)), ((0, 0, 1), None),
        ]
        right = ((0, 0, 1), (0, 1, 0))
        for thing in wrong + untrue(right) + listed(right) + any_values():
            self.assertIs(is_frame(3, thing), False)
        refuse(self, is_frame, [2, ((1,),)], [BadSides, None], {0: [1, 6]})

    def test_is_frame_of_some_tuples(self):
        rnd = random.Random(11)
        for _ in range(400):
            loads = tuple(tuple(rnd.randint(0, 2) for _ in range(3)) for _ in range(rnd.randint(1, 3)))
            right = list(loads) == sorted(set(loads)) and not any(
                one != other and under(one, other) for one in loads for other in loads)
            self.assertIs(is_frame(3, loads), right)

    def test_greatest_loads(self):
        self.assertEqual(greatest_loads(2, 0), ((0,),))
        self.assertEqual(greatest_loads(2, 6), ((6,),))
        self.assertEqual(greatest_loads(3, 1), ((0, 0, 1), (0, 1, 0), (1, 0, 0)))
        self.assertEqual(greatest_loads(3, 2), ((0, 0, 2), (0, 2, 0), (1, 1, 1), (2, 0, 0)))
        self.assertEqual(greatest_loads(5, 0), ((0,) * 10,))
        for sides, tracks in ((3, 3), (3, 4), (4, 1), (4, 2), (5, 1)):
            let = [load for load in every_load(sides, tracks) if all(
                sum(number for pair, number in zip(pairs_of(sides), load) if side in pair) <= tracks
                for side in range(sides))]
            top = [load for load in let if not any(load != other and under(load, other) for other in let)]
            self.assertEqual(greatest_loads(sides, tracks), tuple(top))

    def test_how_many_loads_are_let(self):
        # Counted by the sums that are left, pair by pair; 5 sides let too many from 5 tracks on, no others do.
        counts = {(sides, tracks): let_counted(sides, tracks) for sides in range(2, 6) for tracks in range(7)}
        self.assertEqual((counts[4, 6], counts[5, 3], counts[5, 4], counts[5, 5]), (3616, 2698, 14751, 62781))
        for (sides, tracks), many in counts.items():
            if many > 20000:
                too_many(self, 20000, greatest_loads, sides, tracks)
            else:
                found = greatest_loads(sides, tracks)
                self.assertEqual(list(found), sorted(set(found)))
                for load in found:
                    sums = [sum(number for pair, number in zip(pairs_of(sides), load) if side in pair)
                            for side in range(sides)]
                    self.assertTrue(max(sums) <= tracks and sum(own < tracks for own in sums) <= 1)

    def test_all_greatest_loads_are_told(self):
        # All loads below those that are told are all that are let.
        for sides, tracks in ((4, 6), (5, 2), (5, 3), (4, 3), (3, 6)):
            found = set(greatest_loads(sides, tracks))
            rest = list(found)
            while rest:
                load = rest.pop()
                for place, number in enumerate(load):
                    less = load[:place] + (number - 1,) + load[place + 1:]
                    if number > 0 and less not in found:
                        found.add(less)
                        rest.append(less)
            self.assertEqual(len(found), let_counted(sides, tracks))

    def test_greatest_loads_too_many(self):
        for sides in (2, 3, 4):
            self.assertTrue(is_frame(sides, greatest_loads(sides, 6)))
        self.assertTrue(is_frame(5, greatest_loads(5, 4)))
        too_many(self, 20000, greatest_loads, 5, 5)
        too_many(self, 20000, greatest_loads, 5, 6)
        refuse(self, greatest_loads, [3, 2], [BadSides, BadTracks], {0: [1, 6], 1: [7]})
        with self.assertRaises(BadTracks):
            greatest_loads(5, 7)


class Ways(unittest.TestCase):
    def test_is_way(self):
        box = plain(3, 2)
        for way in ((), (A,), (A, B), (A, D), (C, D)):
            self.assertIs(is_way(box, way), True)
        wrong = [(A, A), (B, A), (A, C), (A, ((1, 0), (2, 0))), [], [A], (((0, 0), (1, 1)),), A, (A, None), {A: A}]
        for thing in wrong + untrue((A, B)) + listed((A, B)) + any_values():
            self.assertIs(is_way(box, thing), False)
        refuse(self, is_way, [box, (A,)], [BadBox, None])

    def test_is_way_of_some_boxes(self):
        rnd = random.Random(12)
        for _ in range(30):
            box = some_box(rnd, rnd.randint(2, 4), 2, 6)
            ways = set(every_way(box))
            for _ in range(60):
                thing = tuple(rnd.choice(box.switches) for _ in range(rnd.randint(0, 3)))
                self.assertIs(is_way(box, thing), thing in ways)

    def test_way_load(self):
        self.assertEqual(way_load(plain(3, 2), ()), (0, 0, 0))
        self.assertEqual(way_load(plain(3, 2), (A, D)), (1, 0, 1))
        box = full(5, 2)
        self.assertEqual(way_load(box, (((3, 0), (4, 1)),)), (0,) * 9 + (1,))
        self.assertEqual(way_load(box, (((1, 0), (4, 1)), ((2, 0), (3, 1)))), (0, 0, 0, 0, 0, 0, 1, 1, 0, 0))
        wrong = [(A, A), (B, A), (A, C), [A], (((0, 0), (1, 1)),)]
        refuse(self, way_load, [plain(3, 2), (A,)], [BadBox, BadWay], {1: wrong + untrue((A,)) + listed((A,))})

    def test_is_standing(self):
        box, frame = plain(3, 2), ((0, 0, 1), (2, 0, 0))
        for way in ((), (A,), (A, B), (D,)):
            self.assertIs(is_standing(box, frame, way), True)
        for thing in [(C,), (A, D), (A, C), [A]] + untrue((A, B)) + listed((A, B)) + any_values():
            self.assertIs(is_standing(box, frame, thing), False)
        refuse(self, is_standing, [box, frame, (A,)], [BadBox, BadFrame, None], {1: [((1,),), [(0, 0, 1)]]})

    def test_standings(self):
        self.assertEqual(standings(plain(2, 2), ((2,),)), [(), (A,), (A, B), (B,)])
        self.assertEqual(standings(plain(2, 2), ((1,),)), [(), (A,), (B,)])
        self.assertEqual(standings(plain(2, 2), ((0,),)), [()])
        self.assertEqual(standings(Box(2, 2, ()), ((99,),)), [()])
        refuse(self, standings, [plain(2, 2), ((1,),)], [BadBox, BadFrame], {1: [((1, 1, 1),), ((1,), (2,))]})
        anew(self, standings, plain(2, 2), ((2,),))
        rnd = random.Random(13)
        for _ in range(60):
            box = some_box(rnd, rnd.randint(2, 4), rnd.randint(1, 3), 9)
            frame = some_frame(rnd, box.sides, 2, 3)
            self.assertEqual(standings(box, frame), every_standing(box, frame))

    def test_standings_too_many(self):
        every = ((15,) * 10,)
        self.assertEqual(len(standings(tree_box(5000), every)), 5000)
        too_many(self, 5000, standings, tree_box(5001), every)
        too_many(self, 5000, standings, full(5, 6), every)
        too_many(self, 5000, standings, full(2, 6), ((6,),))
        self.assertEqual(len(standings(full(5, 6), ((0,) * 9 + (1,),))), 37)


class Askings(unittest.TestCase):
    def test_askings(self):
        box, frame = plain(3, 2), ((0, 0, 1), (2, 0, 0))
        self.assertEqual(askings(box, frame, ()), [("want", (0, 1)), ("want", (1, 2))])
        self.assertEqual(askings(box, frame, (A,)), [("end", A), ("want", (0, 1))])
        self.assertEqual(askings(box, frame, (A, B)), [("end", A), ("end", B)])
        self.assertEqual(askings(box, frame, (D,)), [("end", D)])
        wrong = [(C,), (A, D), [A], (A, A)] + untrue((A,)) + listed((A,))
        refuse(self, askings, [box, frame, (A,)], [BadBox, BadFrame, BadStanding], {2: wrong})
        anew(self, askings, box, frame, (A,))

    def test_a_want_need_not_have_an_answer(self):
        box = plain(3, 1)
        self.assertEqual(askings(box, ((1, 1, 0),), (A,)), [("end", A), ("want", (0, 2))])
        self.assertEqual(answers(box, ((1, 1, 0),), 20, (A,), ("want", (0, 2))), [])

    def test_answers(self):
        box, frame = plain(2, 2), ((2,),)
        for moves in (0, 1, 20):
            self.assertEqual(answers(box, frame, moves, (A, B), ("end", A)), [(B,)])
            self.assertEqual(answers(box, frame, moves, (), ("want", (0, 1))), [(A,), (B,)])
            self.assertEqual(answers(box, frame, moves, (A,), ("want", (0, 1))), [(A, B)])
        three = plain(2, 3)
        e = ((0, 2), (1, 2))
        self.assertEqual(answers(three, ((2,),), 0, (A,), ("want", (0, 1))), [(A, B), (A, e)])
        self.assertEqual(answers(three, ((2,),), 1, (A,), ("want", (0, 1))), [(A, B), (A, e), (B, e)])
        anew(self, answers, three, ((2,),), 1, (A,), ("want", (0, 1)))

    def test_some_answers(self):
        rnd = random.Random(14)
        for _ in range(120):
            box = some_box(rnd, rnd.randint(2, 4), rnd.randint(1, 3), 10)
            frame = some_frame(rnd, box.sides, 3, 3)
            ways = every_standing(box, frame)
            for _ in range(6):
                way, moves = rnd.choice(ways), rnd.choice([0, 1, 2, 3, 20])
                self.assertEqual(askings(box, frame, way), every_asking(box, frame, way))
                for asking in askings(box, frame, way):
                    told = answers(box, frame, moves, way, asking)
                    self.assertEqual(told, every_answer(box, moves, way, asking, ways))
                    for other in told:
                        self.assertTrue(inside(frame, count_load(box.sides, other)))

    def test_answers_are_never_too_many(self):
        box = full(5, 6)
        frame = greatest_loads(5, 4)
        too_many(self, 5000, standings, box, frame)
        self.assertEqual(len(answers(box, frame, 0, (), ("want", (0, 1)))), 36)
        self.assertEqual(len(answers(box, frame, 20, (A,), ("want", (2, 3)))), 36 * 36)
        self.assertEqual(len(askings(box, frame, (A,))), 11)

    def test_wrong_askings(self):
        box, frame = plain(3, 2), ((0, 0, 1), (2, 0, 0))
        right = [box, frame, 1, (A,), ("want", (0, 1))]
        wrong = [
            ("want", (1, 2)), ("want", (0, 2)), ("want", (1, 0)), ("want", [0, 1]), ["want", (0, 1)], ("end", B),
            ("end", [A[0], A[1]]), ("want",), ("end", A, 0), ("End", A), ("want", A), ("end", (0, 1)), (True, A),
            ("want", (0, 3)), ("want", (0, 0)), ("want", (-1, 0)), (plain(2, 1), A), ("end", None), ("want", None),
        ]
        wrong += untrue(("want", (0, 1))) + untrue(("end", A)) + listed(("end", A))
        refuse(self, answers, right, [BadBox, BadFrame, BadMoves, BadStanding, BadAsking],
               {2: [21, -1], 3: [(C,), (A, D), [A]] + untrue((A,)), 4: wrong})
        answers(box, frame, 20, (A,), ("end", A))

    def test_crossed_boxes_of_two_sides(self):
        self.assertEqual(standings(crossed(2, 1), ((1,),)), [(), (A,)])


if __name__ == "__main__":
    unittest.main()
