"""Point 120: turns of sides and tracks, and what goes along with them."""

import random
import unittest
from itertools import permutations, product

from allcalls.alikes import (is_turn, no_turn, turn_back, turn_on, turned_asking, turned_box, turned_frame,
                             turned_load, turned_way)
from allcalls.boxes import Box, crossed, full, plain
from allcalls.breaks import breaks, fewest_breaking
from allcalls.dooms import is_doom, least_moves, lost
from allcalls.errors import (BadAsking, BadBox, BadFrame, BadLoad, BadSides, BadTracks, BadTurn, BadWay)
from allcalls.frames import answers, askings, is_frame, is_way, standings, way_load
from allcalls.hunts import fewest_trials
from allcalls.keepings import greatest_keeping, is_keeping
from allcalls.partings import is_parting, open_caps, parting
from allcalls.trials import within_reach
from allcalls.tries import are_tries, tries
from tests.helpers import (any_values, anew, every_standing, every_way, listed, pairs_of, ranks_of, game_of, refuse,
                           some_box, some_frame, untrue)

A = ((0, 0), (1, 0))
B = ((0, 1), (1, 1))


def every_turn(sides, tracks):
    rows = list(permutations(range(tracks)))
    return [(order, row) for order in permutations(range(sides)) for row in product(rows, repeat=sides)]


def some_turn(rnd, sides, tracks):
    return (tuple(rnd.sample(range(sides), sides)), tuple(tuple(rnd.sample(range(tracks), tracks))
                                                          for _ in range(sides)))


def goes(turn, pin):
    return (turn[0][pin[0]], turn[1][pin[0]][pin[1]])


def switch_goes(turn, switch):
    return tuple(sorted((goes(turn, switch[0]), goes(turn, switch[1]))))


def way_goes(turn, way):
    return tuple(sorted(switch_goes(turn, switch) for switch in way))


def load_goes(sides, turn, load):
    between = {frozenset((turn[0][one], turn[0][two])): number for (one, two), number in zip(pairs_of(sides), load)}
    return tuple(between[frozenset(pair)] for pair in pairs_of(sides))


def asking_goes(turn, asking):
    if asking[0] == "end":
        return ("end", switch_goes(turn, asking[1]))
    return ("want", tuple(sorted(turn[0][side] for side in asking[1])))


def some_boxes(seed, many, most=8):
    rnd = random.Random(seed)
    for _ in range(many):
        box = some_box(rnd, rnd.randint(2, 5), rnd.randint(1, 4), most)
        yield rnd, box, some_frame(rnd, box.sides, 2, 2), some_turn(rnd, box.sides, box.tracks)


class Turns(unittest.TestCase):
    def test_is_turn(self):
        for sides, tracks in ((2, 1), (2, 2), (3, 2)):
            for turn in every_turn(sides, tracks):
                self.assertIs(is_turn(sides, tracks, turn), True)
        right = ((1, 0, 2), ((0, 1), (1, 0), (0, 1)))
        wrong = [(right[0],), right[1], right + (0,), list(right), ((0, 0, 2), right[1]), ((1, 2, 3), right[1]),
                 ((1, 0), right[1]), (right[0], right[1][:2]), (right[0], ((0, 1), (1, 1), (0, 1))), (right[1], right[0]),
                 (right[0], ((0, 1), (1, 0), (0, 1), (0, 1))), (right[0], ((0, 1), (1, 0), (0, 1, 2))), ((), ()),
                 (right[0], ((0, 1), (1, 2), (0, 1))), (right[0], ((0, 1), (0,), (0, 1))), (right[0], None),
                 ({0: 1, 1: 0, 2: 2}, right[1]), ((1, 0, -1), right[1]), (right[0], ((0, 1), (1, 0), 0))]
        self.assertIs(is_turn(3, 2, right), True)
        for thing in wrong + untrue(right) + listed(right) + any_values():
            self.assertIs(is_turn(3, 2, thing), False, thing)
        self.assertIs(is_turn(3, 3, right), False)
        self.assertIs(is_turn(4, 2, right), False)

    def test_no_turn(self):
        self.assertEqual(no_turn(2, 1), ((0, 1), ((0,), (0,))))
        self.assertEqual(no_turn(3, 2), ((0, 1, 2), ((0, 1), (0, 1), (0, 1))))
        self.assertEqual(no_turn(5, 6), (tuple(range(5)), (tuple(range(6)),) * 5))

    def test_turn_back_and_turn_on(self):
        for sides, tracks in ((2, 2), (3, 1), (2, 3)):
            every = every_turn(sides, tracks)
            pins = list(product(range(sides), range(tracks)))
            for turn in every:
                back = turn_back(sides, tracks, turn)
                self.assertIn(back, every)
                self.assertEqual([goes(back, goes(turn, pin)) for pin in pins], pins)
                self.assertEqual(turn_on(sides, tracks, turn, back), no_turn(sides, tracks))
            rnd = random.Random(120)
            for _ in range(60):
                one, two = rnd.choice(every), rnd.choice(every)
                both = turn_on(sides, tracks, one, two)
                self.assertIn(both, every)
                self.assertEqual([goes(both, pin) for pin in pins], [goes(two, goes(one, pin)) for pin in pins])
        self.assertEqual(turn_on(2, 2, ((1, 0), ((0, 1), (1, 0))), ((0, 1), ((1, 0), (0, 1)))),
                         ((1, 0), ((0, 1), (0, 1))))
        self.assertEqual(turn_back(3, 2, ((1, 2, 0), ((1, 0), (0, 1), (0, 1)))), ((2, 0, 1), ((0, 1), (1, 0), (0, 1))))

    def test_refusals(self):
        right = ((1, 0), ((0, 1), (1, 0)))
        wrong = [((0, 0), right[1]), list(right), (right[0], ((0, 1),)), ((1, 0), ((0,), (0,)))]
        wrong += untrue(right) + listed(right)
        sizes = {0: [1, 6, "2"], 1: [0, 7, "2"]}
        refuse(self, is_turn, [2, 2, None], [BadSides, BadTracks, None], sizes)
        refuse(self, no_turn, [2, 2], [BadSides, BadTracks], sizes)
        refuse(self, turn_back, [2, 2, right], [BadSides, BadTracks, BadTurn], {**sizes, 2: wrong})
        refuse(self, turn_on, [2, 2, right, right], [BadSides, BadTracks, BadTurn, BadTurn],
               {**sizes, 2: wrong, 3: wrong})


class Turned(unittest.TestCase):
    def test_small(self):
        turn = ((2, 0, 1), ((0, 1), (1, 0), (0, 1)))
        box = Box(3, 2, (A, ((1, 1), (2, 0))))
        # The side 0 goes to 2, 1 to 0 with its tracks exchanged, 2 to 1.
        self.assertEqual(turned_box(box, turn), Box(3, 2, (((0, 0), (1, 0)), ((0, 1), (2, 0)))))
        self.assertEqual(turned_way(box, turn, box.switches), (((0, 0), (1, 0)), ((0, 1), (2, 0))))
        self.assertEqual(turned_way(box, turn, ()), ())
        self.assertEqual(turned_load(box, turn, (1, 2, 3)), (3, 1, 2))
        self.assertEqual(turned_frame(box, turn, ((0, 0, 5), (1, 2, 3))), ((3, 1, 2), (5, 0, 0)))
        self.assertEqual(turned_asking(box, turn, ("want", (0, 2))), ("want", (1, 2)))
        self.assertEqual(turned_asking(box, turn, ("end", A)), ("end", ((0, 1), (2, 0))))

    def test_some_boxes(self):
        for rnd, box, frame, turn in some_boxes(121, 120):
            other = turned_box(box, turn)
            self.assertEqual(other, Box(box.sides, box.tracks, way_goes(turn, box.switches)))
            self.assertEqual(turned_box(other, turn_back(box.sides, box.tracks, turn)), box)
            self.assertEqual(turned_box(box, no_turn(box.sides, box.tracks)), box)
            then = some_turn(rnd, box.sides, box.tracks)
            both = turn_on(box.sides, box.tracks, turn, then)
            self.assertEqual(turned_box(box, both), turned_box(other, then))
            turned = turned_frame(box, turn, frame)
            self.assertEqual(turned, tuple(sorted(load_goes(box.sides, turn, load) for load in frame)))
            self.assertIs(is_frame(box.sides, turned), True)
            for way in rnd.sample(every_way(box), min(5, len(every_way(box)))):
                gone = turned_way(box, turn, way)
                self.assertEqual(gone, way_goes(turn, way))
                self.assertIs(is_way(other, gone), True)
                self.assertEqual(way_load(other, gone), turned_load(box, turn, way_load(box, way)))
            for load in frame:
                self.assertEqual(turned_load(box, turn, load), load_goes(box.sides, turn, load))
            wants = [("want", pair) for pair in pairs_of(box.sides)]
            for asking in wants + [("end", switch) for switch in box.switches]:
                self.assertEqual(turned_asking(box, turn, asking), asking_goes(turn, asking))

    def test_what_holds_turned(self):
        done = 0
        for rnd, box, frame, turn in some_boxes(122, 120, 7):
            ways = every_standing(box, frame)
            if box.sides > 4 or len(ways) > 40:
                continue
            done += 1
            other, turned = turned_box(box, turn), turned_frame(box, turn, frame)
            self.assertEqual(standings(other, turned), sorted(turned_way(box, turn, way) for way in ways))
            moves = rnd.randint(0, 2)
            for way in rnd.sample(ways, min(4, len(ways))):
                gone = turned_way(box, turn, way)
                asked = askings(box, frame, way)
                self.assertEqual(askings(other, turned, gone),
                                 sorted(turned_asking(box, turn, asking) for asking in asked))
                for asking in asked:
                    found = answers(other, turned, moves, gone, turned_asking(box, turn, asking))
                    self.assertEqual(found, sorted(turned_way(box, turn, one)
                                                   for one in answers(box, frame, moves, way, asking)))
            self.games(box, frame, turn, other, turned, moves)
            self.numbers(rnd, box, frame, turn, other, turned)
        self.assertGreater(done, 50)

    def games(self, box, frame, turn, other, turned, moves):
        keeping = greatest_keeping(box, frame, moves, ())
        if keeping is not None:
            gone = tuple(sorted(turned_way(box, turn, way) for way in keeping))
            self.assertIs(is_keeping(other, turned, moves, (), gone), True)
        nodes = ranks_of(game_of(box, frame, moves), ())
        if () in nodes:
            gone = {turned_way(box, turn, way): (rank, turned_asking(box, turn, asking))
                    for way, (rank, asking) in nodes.items()}
            self.assertIs(is_doom(other, turned, moves, (), gone), True)
        self.assertEqual(lost(other, turned, moves), sorted(turned_way(box, turn, way) for way in nodes))
        self.assertEqual(least_moves(other, turned), least_moves(box, frame))

    def numbers(self, rnd, box, frame, turn, other, turned):
        load = frame[0]
        gone = turned_load(box, turn, load)
        lot = tuple(switch for switch in box.switches if rnd.random() < 0.4)
        self.assertIs(breaks(other, gone, way_goes(turn, lot)), breaks(box, load, lot))
        one, two = fewest_breaking(box, load), fewest_breaking(other, gone)
        self.assertEqual(one and len(one), two and len(two))
        for telling in ("whole", "each"):
            self.assertEqual(fewest_trials(box, frame, telling), fewest_trials(other, turned, telling))
        some = within_reach(box, frame)
        caps = open_caps(fewest_trials(box, frame, "each"))
        told = [turned_way(box, turn, item) for item in parting(box, frame, some, caps)]
        self.assertIs(is_parting(other, turned, way_goes(turn, some), caps, told), True)
        row, back = tries(box, load, 1), tries(other, gone, 1)
        self.assertEqual(row and len(row), back and len(back))
        if row is not None:
            self.assertIs(are_tries(other, gone, 1, [turned_way(box, turn, way) for way in row]), True)

    def test_full_boxes(self):
        rnd = random.Random(123)
        for sides, tracks in ((2, 6), (3, 3), (5, 6)):
            turn = some_turn(rnd, sides, tracks)
            self.assertEqual(turned_box(full(sides, tracks), turn), full(sides, tracks))
        self.assertEqual(turned_box(plain(2, 2), ((0, 1), ((0, 1), (1, 0)))), crossed(2, 2))
        self.assertEqual(turned_load(plain(2, 1), ((1, 0), ((0,), (0,))), (99,)), (99,))

    def test_refusals(self):
        box, turn = plain(3, 2), ((1, 0, 2), ((0, 1), (1, 0), (0, 1)))
        wrong = [((0, 0, 1), turn[1]), list(turn), (turn[0], turn[1][:2]), no_turn(3, 1), no_turn(2, 2)]
        wrong += untrue(turn) + listed(turn)
        out = ((0, 0), (1, 1))
        refuse(self, turned_box, [box, turn], [BadBox, BadTurn], {1: wrong})
        ways = [(B, A), (A, A), A, [A], (out,), (A, ((0, 0), (2, 0)))] + untrue((A, B)) + listed((A, B))
        refuse(self, turned_way, [box, turn, (A, B)], [BadBox, BadTurn, BadWay], {1: wrong, 2: ways})
        loads = [(1,), [1, 1, 1], (-1, 0, 0), (100, 0, 0), 1] + untrue((1, 0, 1))
        refuse(self, turned_load, [box, turn, (1, 0, 1)], [BadBox, BadTurn, BadLoad], {1: wrong, 2: loads})
        frames = [((1, 1),), [(2, 0, 0)], ((2, 0, 0), (1, 0, 0)), ((1, 0, 0), (2, 0, 0))] + untrue(((1, 0, 0),))
        refuse(self, turned_frame, [box, turn, ((1, 0, 0),)], [BadBox, BadTurn, BadFrame], {1: wrong, 2: frames})
        for asking in (("end", A), ("want", (0, 1))):
            bad = [("want", (1, 0)), ("want", (0, 0)), ("want", (0, 3)), ("want", [0, 1]), ("end", out), ("end", A, 0),
                   ["end", A], ("break", A), ("end",), ("want", A), ("end", (0, 1)), (("end", A),), ("end", None)]
            bad += untrue(asking) + listed(asking)
            refuse(self, turned_asking, [box, turn, asking], [BadBox, BadTurn, BadAsking], {1: wrong, 2: bad})
        # Any want of a pair of sides and any end of a switch of the box is turned.
        self.assertEqual(turned_asking(Box(3, 2, ()), turn, ("want", (1, 2))), ("want", (0, 2)))

    def test_returned_anew(self):
        anew(self, turned_frame, plain(2, 2), no_turn(2, 2), ((1,),))


if __name__ == "__main__":
    unittest.main()
