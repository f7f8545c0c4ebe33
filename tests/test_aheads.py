"""Point 71: askings told ahead."""

import random
import unittest

from allcalls.aheads import ahead_doom, ahead_keeping, is_ahead_doom, is_ahead_keeping, least_ahead, longer
from allcalls.boxes import Box, full, plain
from allcalls.errors import BadAhead, BadBox, BadFrame, BadKeeping, BadMost, BadMoves
from allcalls.keepings import greatest_keeping
from tests.helpers import (any_values, anew, ascending_dict, greatest_of, is_doomed, is_kept, listed, pairs_of, refuse,
                           some_box, some_frame, too_many, untrue)
from tests.test_keepings import RING
from tests.test_seats import (FRAME_5000, FRAME_5001, SEATED_5000, SEATED_5001, every_call, every_row, every_seating,
                              is_answer, led)

A = ((0, 0), (1, 0))
B = ((0, 1), (1, 1))
WANT = ("want", (0, 1))
END = ("end", (0, 1), 0)

# Example A: with nothing told ahead nothing is kept, with one call told ahead all is.
BOX_A = Box(3, 4, tuple(sorted([((0, track), (1, track)) for track in range(4)] + [
    ((0, 1), (2, 0)), ((0, 3), (2, 0)), ((1, 0), (2, 0)), ((1, 2), (2, 0))])))
FRAME_A = ((2, 0, 1), (2, 1, 0), (3, 0, 0))
BOX_MORE = Box(4, 4, tuple(sorted(BOX_A.switches + (((2, 1), (3, 0)),))))
FRAME_MORE = tuple(sorted((one, two, 0, three, 0, 1) for one, two, three in FRAME_A))

EMPTY = Box(2, 1, ())

# Boxes and frames with just so many positions, with so many calls told ahead.
JUST = {
    20000: (Box(5, 1, (((2, 0), (3, 0)),)), ((1,) * 10,), 4),
    20001: (Box(4, 3, (((2, 2), (3, 1)),)), ((3, 0, 0, 2, 1, 2), (3, 1, 0, 0, 1, 3), (3, 3, 3, 3, 0, 0)), 5),
}


def load_of_seating(seating):
    return tuple(len(row) for row in seating)


def ahead_game(box, frame, moves, ahead):
    """The dict from all positions to dicts from the calls that may be told to the positions that answer."""
    seatings = every_seating(box, frame)
    game = {}
    for seating in seatings:
        load = load_of_seating(seating)
        for told in every_row(box.sides, frame, load, ahead):
            end = load
            for call in told:
                end = led(box.sides, end, call)
            nexts = {}
            for call in every_call(box.sides, frame, end):
                row = told + (call,)
                nexts[call] = []
                for other in seatings:
                    if load_of_seating(other) == led(box.sides, load, row[0]):
                        if is_answer(box.sides, moves, seating, row[0], other):
                            nexts[call].append((other, row[1:]))
            game[(seating, told)] = nexts
    return game


def lost_of(game):
    """The dict from the lost positions to their ranks and first calls, round by round."""
    nodes = {}
    while True:
        new = {}
        for place in game:
            if place not in nodes:
                for call, found in game[place].items():
                    if all(other in nodes for other in found):
                        new[place] = call
                        break
        if not new:
            return {place: nodes[place] for place in sorted(nodes)}
        rank = 1 + max([node[0] for node in nodes.values()], default=-1)
        nodes.update({place: (rank, call) for place, call in new.items()})


def beginnings_of(game):
    return {place for place in game if not any(place[0])}


def some_games(seed, many, most=2):
    rnd = random.Random(seed)
    done = 0
    while done < many:
        box = some_box(rnd, rnd.randint(2, 3), rnd.randint(1, 3), 6)
        frame = some_frame(rnd, box.sides, 2, 2)
        moves, ahead = rnd.choice([0, 0, 0, 1, 2, 20]), rnd.randint(0, most)
        if len(every_seating(box, frame)) > 25:
            continue
        game = ahead_game(box, frame, moves, ahead)
        if len(game) < 2500:
            done += 1
            yield rnd, box, frame, moves, ahead, game


class Games(unittest.TestCase):
    def test_some_games(self):
        both = [0, 0]
        for rnd, box, frame, moves, ahead, game in some_games(71, 120):
            kept, nodes = greatest_of(game), lost_of(game)
            self.assertEqual(set(game) - kept, set(nodes))
            keeping, doom = ahead_keeping(box, frame, moves, ahead), ahead_doom(box, frame, moves, ahead)
            good = beginnings_of(game) <= kept
            both[good] += 1
            if good:
                self.assertIsNone(doom)
                self.assertEqual(keeping, tuple(sorted(kept)))
                self.assertIs(is_ahead_keeping(box, frame, moves, ahead, keeping), True)
                self.assertIs(is_ahead_doom(box, frame, moves, ahead, nodes), is_doomed(game, beginnings_of(game), nodes))
            else:
                self.assertIsNone(keeping)
                self.assertEqual(doom, nodes)
                ascending_dict(self, doom)
                self.assertIs(is_ahead_doom(box, frame, moves, ahead, doom), True)
            self.spoiled(rnd, box, frame, moves, ahead, game, kept, nodes)
        self.assertGreater(min(both), 15)

    def spoiled(self, rnd, box, frame, moves, ahead, game, kept, nodes):
        for _ in range(3):
            thing = tuple(sorted(place for place in kept if rnd.random() < 0.9))
            self.assertIs(is_ahead_keeping(box, frame, moves, ahead, thing), is_kept(game, beginnings_of(game), thing))
        for _ in range(3):
            if nodes:
                place = rnd.choice(list(nodes))
                less = {key: node for key, node in nodes.items() if key != place}
                other = {**nodes, place: (max(0, nodes[place][0] + rnd.choice([-1, 1])), nodes[place][1])}
                call = {**nodes, place: (nodes[place][0], rnd.choice(list(game[place])))}
                for thing in (less, other, call, dict(reversed(list(nodes.items())))):
                    self.assertIs(is_ahead_doom(box, frame, moves, ahead, thing), is_doomed(game, beginnings_of(game), thing))

    def test_facts(self):
        for _, box, frame, moves, _, _ in some_games(72, 50, 0):
            keepings = [ahead_keeping(box, frame, moves, ahead) for ahead in range(3)]
            self.assertEqual(keepings[0] is None, greatest_keeping(box, frame, moves, ()) is None)
            for ahead in range(2):
                if keepings[ahead] is not None:
                    self.assertIsNotNone(keepings[ahead + 1])
                    self.assertIsNotNone(ahead_keeping(box, frame, min(20, moves + 1), ahead))
                    more = longer(box, frame, moves, ahead, keepings[ahead])
                    self.assertIs(is_ahead_keeping(box, frame, moves, ahead + 1, more), True)
            least = [ahead for ahead in range(3) if keepings[ahead] is not None]
            self.assertEqual(least_ahead(box, frame, moves, 2), least[0] if least else None)

    def test_example(self):
        self.assertIsNone(ahead_keeping(BOX_A, FRAME_A, 0, 0))
        self.assertEqual(least_ahead(BOX_A, FRAME_A, 0, 0), None)
        for most in (1, 2, 3):
            self.assertEqual(least_ahead(BOX_A, FRAME_A, 0, most), 1)
        self.assertIs(is_ahead_keeping(BOX_A, FRAME_A, 0, 1, ahead_keeping(BOX_A, FRAME_A, 0, 1)), True)
        # With a side more the asker may wait, so that no ahead is enough.
        self.assertIsNone(least_ahead(BOX_MORE, FRAME_MORE, 0, 2))
        self.assertIs(is_ahead_doom(BOX_MORE, FRAME_MORE, 0, 2, ahead_doom(BOX_MORE, FRAME_MORE, 0, 2)), True)


class Small(unittest.TestCase):
    def test_keeping(self):
        box, frame = plain(2, 2), ((1,),)
        empty, one, two = ((),), ((A,),), ((B,),)
        self.assertEqual(ahead_keeping(box, frame, 0, 0), ((empty, ()), (one, ()), (two, ())))
        self.assertEqual(ahead_keeping(box, frame, 0, 1), ((empty, (WANT,)), (one, (END,)), (two, (END,))))
        self.assertEqual(longer(box, frame, 0, 0, ((empty, ()), (one, ()))), ((empty, (WANT,)), (one, (END,))))
        self.assertIsNone(ahead_doom(box, frame, 0, 6))
        self.assertEqual(least_ahead(box, frame, 0, 6), 0)

    def test_doom(self):
        box, frame = plain(2, 1), ((2,),)
        empty, one = ((),), ((A,),)
        self.assertIsNone(ahead_keeping(box, frame, 20, 0))
        self.assertEqual(ahead_doom(box, frame, 20, 0), {(empty, ()): (1, WANT), (one, ()): (0, WANT)})
        doom = ahead_doom(box, frame, 20, 1)
        # With WANT told at the one wire there is no answer, whatever is told behind it.
        last = ("end", (0, 1), 0)
        self.assertEqual(doom[(one, (WANT,))], (0, last))
        self.assertEqual(doom[(empty, (WANT,))], (1, WANT))
        self.assertIsNone(least_ahead(box, frame, 20, 6))

    def test_frame_of_zeros(self):
        for box in (plain(2, 2), EMPTY, plain(4, 1)):
            frame = ((0,) * len(pairs_of(box.sides)),)
            empty = ((),) * len(pairs_of(box.sides))
            self.assertEqual(ahead_keeping(box, frame, 0, 0), ((empty, ()),))
            self.assertEqual(longer(box, frame, 0, 0, ((empty, ()),)), ())
            for ahead in (1, 6):
                # There is no call, so there is no row of calls, and no position.
                self.assertEqual(ahead_keeping(box, frame, 0, ahead), ())
                self.assertIs(is_ahead_keeping(box, frame, 0, ahead, ()), True)
                self.assertIs(is_ahead_keeping(box, frame, 0, ahead, ((empty, ()),)), False)
                self.assertIsNone(ahead_doom(box, frame, 0, ahead))
                self.assertIs(is_ahead_doom(box, frame, 0, ahead, {}), False)
            self.assertEqual(least_ahead(box, frame, 0, 6), 0)

    def test_frames_that_are_not_carried(self):
        frame = ((1,),)
        self.assertEqual(ahead_doom(EMPTY, frame, 20, 0), {(((),), ()): (0, WANT)})
        self.assertEqual(ahead_doom(EMPTY, frame, 20, 2), {(((),), (WANT, END)): (0, WANT)})
        self.assertIs(is_ahead_doom(EMPTY, frame, 0, 2, {(((),), (WANT, END)): (7, WANT)}), True)
        for ahead in (0, 1, 3):
            self.assertIsNone(ahead_keeping(plain(3, 2), ((1, 1, 1),), 20, ahead))

    def test_returned_anew(self):
        anew(self, ahead_doom, plain(2, 1), ((2,),), 20, 1)
        anew(self, ahead_keeping, plain(2, 2), ((2,),), 0, 1)

    def test_ring(self):
        self.assertEqual(least_ahead(plain(4, 2), RING, 0, 1), 0)


class Judged(unittest.TestCase):
    def test_is_ahead_keeping(self):
        box, frame = plain(2, 2), ((2,),)
        for ahead in (0, 1, 2):
            right = ahead_keeping(box, frame, 0, ahead)
            self.assertIs(is_ahead_keeping(box, frame, 0, ahead, right), True)
            wrong = [(), right[1:], right[:-1], list(right), right[::-1], right + right[-1:], right + (None,), [right],
                     right + ((((E,),), right[-1][1]),), {place: True for place in right}]
            for thing in wrong + untrue(right) + listed(right) + any_values():
                self.assertIs(is_ahead_keeping(box, frame, 0, ahead, thing), False, thing)
            for other in (0, 1, 2, 3, 6):
                self.assertIs(is_ahead_keeping(box, frame, 0, other, right), other == ahead)

    def test_is_ahead_doom(self):
        box, frame = plain(2, 1), ((2,),)
        for ahead in (0, 1, 2):
            right = ahead_doom(box, frame, 1, ahead)
            self.assertIs(is_ahead_doom(box, frame, 1, ahead, right), True)
            self.assertIs(is_ahead_doom(box, frame, 1, ahead, dict(reversed(list(right.items())))), True)
            far = {place: (rank + 10 ** 6, call) for place, (rank, call) in right.items()}
            self.assertIs(is_ahead_doom(box, frame, 1, ahead, far), True)
            low = {place: (rank - 1, call) for place, (rank, call) in right.items()}
            flat = {place: (0, call) for place, (rank, call) in right.items()}
            ends = {place: (rank, END) for place, (rank, call) in right.items()}
            wrong = [{}, low, flat, ends, list(right.items()), {**right, 0: (0, WANT)}, {**right, (): (0, WANT)}]
            for thing in wrong + untrue(right) + listed(right) + any_values():
                self.assertIs(is_ahead_doom(box, frame, 1, ahead, thing), False, thing)

    def test_a_doom_may_be_less(self):
        lesser = 0
        for _, box, frame, moves, ahead, game in some_games(73, 60):
            nodes = lost_of(game)
            for first in beginnings_of(game) & set(nodes):
                needed, rest = {}, [first]
                while rest:
                    place = rest.pop()
                    needed[place] = nodes[place]
                    rest += [other for other in game[place][nodes[place][1]] if other not in needed]
                lesser += len(needed) < len(nodes)
                self.assertIs(is_ahead_doom(box, frame, moves, ahead, needed), True)
        self.assertGreater(lesser, 20)


E = ((0, 2), (1, 2))


class Refused(unittest.TestCase):
    def test_refusals(self):
        box, frame = plain(2, 2), ((2,),)
        wrong = {1: [((1, 1, 1),), [(2,)]] + untrue(((1,),)), 2: [21, "1"], 3: [7, "0"]}
        for function in (ahead_keeping, ahead_doom):
            for ahead in (0, 6):
                refuse(self, function, [box, frame, 1, ahead], [BadBox, BadFrame, BadMoves, BadAhead], wrong)
        for function in (is_ahead_keeping, is_ahead_doom):
            refuse(self, function, [box, frame, 20, 1, None], [BadBox, BadFrame, BadMoves, BadAhead, None], wrong)
        refuse(self, least_ahead, [box, frame, 0, 6], [BadBox, BadFrame, BadMoves, BadMost], wrong)
        keeping = ahead_keeping(box, frame, 0, 0)
        bad = [keeping[1:], list(keeping), (), keeping[::-1]] + untrue(keeping) + listed(keeping)
        wrong = {**wrong, 3: [6, 7], 4: bad}
        refuse(self, longer, [box, frame, 0, 0, keeping], [BadBox, BadFrame, BadMoves, BadAhead, BadKeeping], wrong)
        with self.assertRaises(BadKeeping):
            longer(box, frame, 0, 1, keeping)
        with self.assertRaises(BadAhead):
            longer(box, frame, 0, 6, keeping)
        self.assertIsNotNone(longer(box, ((1,),), 0, 5, ahead_keeping(box, ((1,),), 0, 5)))

    def test_too_many_seatings(self):
        every = [(ahead_keeping, (0, 0)), (ahead_doom, (0, 0)), (is_ahead_keeping, (0, 0, None)),
                 (is_ahead_doom, (0, 0, None)), (longer, (0, 0, ())), (least_ahead, (0, 0))]
        for function, rest in every:
            too_many(self, 5000, function, SEATED_5001, FRAME_5001, *rest)
            with self.assertRaises(BadMoves):
                function(SEATED_5001, FRAME_5001, -1, *rest[1:])
        # With just 5000 there are judgements (longer is asked for a keeping at last).
        self.assertIs(is_ahead_keeping(SEATED_5000, FRAME_5000, 0, 0, ()), False)
        self.assertIs(is_ahead_doom(SEATED_5000, FRAME_5000, 0, 0, {}), False)
        self.assertGreater(positions_counted(SEATED_5000, FRAME_5000, 1), 20000)
        too_many(self, 20000, longer, SEATED_5000, FRAME_5000, 0, 0, ())

    def test_too_many_positions(self):
        box, frame = full(5, 1), ((99,) * 10,)
        for ahead in range(7):
            many = positions_counted(box, frame, ahead)
            every = [(is_ahead_keeping, (0, ahead, None)), (is_ahead_doom, (0, ahead, None)), (ahead_doom, (0, ahead)),
                     (ahead_keeping, (0, ahead)), (least_ahead, (0, ahead))]
            for function, rest in every:
                if many > 20000:
                    too_many(self, 20000, function, box, frame, *rest)
                elif function in (is_ahead_keeping, is_ahead_doom):
                    self.assertIs(function(box, frame, *rest), False)

    def test_exactly_at_20000(self):
        for many, (box, frame, ahead) in JUST.items():
            self.assertEqual(positions_counted(box, frame, ahead), many)
            every = [(is_ahead_keeping, (ahead, ()), False), (is_ahead_doom, (ahead, {}), False),
                     (ahead_keeping, (ahead,), None), (least_ahead, (ahead,), None)]
            for function, rest, told in every:
                if many > 20000:
                    too_many(self, 20000, function, box, frame, 0, *rest)
                else:
                    self.assertIs(function(box, frame, 0, *rest), told)
            if many > 20000:
                too_many(self, 20000, ahead_doom, box, frame, 0, ahead)
                too_many(self, 20000, longer, box, frame, 0, ahead - 1, None)
            else:
                self.assertEqual(len(ahead_doom(box, frame, 0, ahead)), many)
                with self.assertRaises(BadKeeping):
                    longer(box, frame, 0, ahead - 1, None)

    def test_order_in_longer(self):
        # TooMany with one call more comes ahead of BadKeeping, both come behind BadAhead.
        box, frame = plain(2, 4), ((4,),)
        counts = [positions_counted(box, frame, ahead) for ahead in range(7)]
        self.assertGreater(counts[6], 20000)
        first = min(ahead for ahead in range(7) if counts[ahead] > 20000)
        for thing in ((), None, ahead_keeping(box, frame, 0, first - 1)):
            too_many(self, 20000, longer, box, frame, 0, first - 1, thing)
        with self.assertRaises(BadKeeping):
            longer(box, frame, 0, first - 2, ())
        with self.assertRaises(BadAhead):
            longer(box, frame, 0, 6, ())
        with self.assertRaises(BadMoves):
            longer(box, frame, -1, first - 1, ())
        too_many(self, 20000, least_ahead, box, frame, 0, first)
        self.assertEqual(least_ahead(box, frame, 0, first - 1), 0)


def positions_counted(box, frame, ahead):
    """How many positions there are, by rows counted load by load."""
    known = {}

    def rows(load, many):
        if many == 0:
            return 1
        if (load, many) not in known:
            known[(load, many)] = sum(rows(led(box.sides, load, call), many - 1)
                                      for call in every_call(box.sides, frame, load))
        return known[(load, many)]
    return sum(rows(load_of_seating(seating), ahead) for seating in every_seating(box, frame))


if __name__ == "__main__":
    unittest.main()
