"""Points 80 and 81: bursts of askings."""

import random
import unittest
from itertools import combinations, product
from math import comb, prod

from allcalls.boxes import Box, full, plain
from allcalls.bursts import (burst_answers, burst_doom, burst_keeping, burst_moves, bursts, greatest_burst,
                             is_burst_doom, is_burst_keeping, patience)
from allcalls.dooms import least_moves
from allcalls.errors import BadBox, BadBurst, BadFrame, BadMany, BadMoves, BadStanding
from allcalls.keepings import greatest_keeping, is_keeping
from tests.helpers import (any_values, anew, ascending_dict, count_load, every_standing, every_way, greatest_of, inside,
                           is_doomed, is_kept, listed, pairs_of, ranks_of, refuse, some_box, some_frame, too_many,
                           under, untrue)
from tests.test_frames import tree_box
from tests.test_keepings import EVERY, RING

A = ((0, 0), (1, 0))
B = ((0, 1), (1, 1))
C = ((0, 0), (1, 1))
EMPTY = Box(2, 1, ())

# The example: one by one, 1 move each is enough; two at once want 2.
BOX_C = Box(3, 4, tuple(sorted([((0, track), (1, track)) for track in range(4)] + [
    ((0, 0), (2, 0)), ((0, 2), (2, 1)), ((1, 1), (2, 0)), ((1, 3), (2, 1))])))
FRAME_C = ((2, 0, 2), (2, 2, 0))

# Frames of four sides with just so many bursts of up to 30 wires at the standing of no wires.
JUST = {20000: ((0, 7, 10, 4, 3, 7), (3, 2, 1, 12, 2, 6)), 20001: ((6, 2, 9, 0, 10, 5), (9, 7, 0, 3, 1, 9))}
# The same for fewer wires: frame and many.
JUST_MANY = {20000: (((2, 4, 7, 7, 8, 9),), 14), 20001: (((1, 3, 3, 7, 7, 10),), 21)}


def summed(one, other):
    return tuple(low + high for low, high in zip(one, other))


def every_burst(box, frame, many, standing):
    """All bursts, by all lots of wires that are gone and all loads that may come."""
    greatest = [max(load[place] for load in frame) for place in range(len(frame[0]))]
    found = []
    for number in range(len(standing) + 1):
        for gone in combinations(standing, number):
            stay = count_load(box.sides, [wire for wire in standing if wire not in gone])
            for more in product(*[range(min(many, top) + 1) for top in greatest]):
                if 1 <= number + sum(more) <= many and inside(frame, summed(stay, more)):
                    found.append((gone, more))
    return sorted(found)


def every_burst_answer(box, moves, standing, burst, ways):
    gone, more = burst
    stay = tuple(wire for wire in standing if wire not in gone)
    if not any(more):
        return [stay]
    load = summed(count_load(box.sides, stay), more)
    return [way for way in ways if count_load(box.sides, way) == load and len(set(stay) - set(way)) <= moves]


def burst_game(box, frame, moves, many):
    ways = every_standing(box, frame)
    return {way: {burst: every_burst_answer(box, moves, way, burst, ways)
                  for burst in every_burst(box, frame, many, way)} for way in ways}


def some_games(seed, many, wide=30):
    rnd = random.Random(seed)
    done = 0
    while done < many:
        box = some_box(rnd, rnd.randint(2, 4), rnd.randint(1, 3), 7)
        frame = some_frame(rnd, box.sides, 2, 2)
        if len(every_standing(box, frame)) <= wide and prod(max(1, max(load)) + 1 for load in frame) < 20:
            done += 1
            yield rnd, box, frame, rnd.choice([0, 0, 1, 1, 2, 3, 20]), rnd.choice([1, 2, 2, 3, 3, 4, 30])


class Bursts(unittest.TestCase):
    def test_small(self):
        box, frame = plain(2, 2), ((2,),)
        self.assertEqual(bursts(box, frame, 1, ()), [((), (1,))])
        self.assertEqual(bursts(box, frame, 30, ()), [((), (1,)), ((), (2,))])
        self.assertEqual(bursts(box, frame, 1, (A,)), [((), (1,)), ((A,), (0,))])
        self.assertEqual(bursts(box, frame, 2, (A,)), [((), (1,)), ((A,), (0,)), ((A,), (1,))])
        self.assertEqual(bursts(box, frame, 3, (A,)), [((), (1,)), ((A,), (0,)), ((A,), (1,)), ((A,), (2,))])
        self.assertEqual(bursts(box, frame, 2, (A, B)), [
            ((A,), (0,)), ((A,), (1,)), ((A, B), (0,)), ((B,), (0,)), ((B,), (1,))])
        self.assertEqual(bursts(box, ((0,),), 30, ()), [])
        self.assertEqual(bursts(EMPTY, ((3,),), 2, ()), [((), (1,)), ((), (2,))])
        anew(self, bursts, box, frame, 3, (A,))

    def test_some_bursts(self):
        for rnd, box, frame, moves, many in some_games(80, 80):
            ways = every_standing(box, frame)
            for standing in rnd.sample(ways, min(3, len(ways))):
                every = every_burst(box, frame, many, standing)
                self.assertEqual(bursts(box, frame, many, standing), every)
                for burst in rnd.sample(every, min(4, len(every))):
                    self.assertEqual(burst_answers(box, frame, moves, many, standing, burst),
                                     every_burst_answer(box, moves, standing, burst, ways))

    def test_answers(self):
        box, frame = full(2, 2), ((2,),)
        d = ((0, 1), (1, 0))
        self.assertEqual(burst_answers(box, frame, 0, 2, (A,), ((), (1,))), [(A, B)])
        self.assertEqual(burst_answers(box, frame, 1, 2, (A,), ((), (1,))), [(A, B), (C, d)])
        # What is gone is not moved.
        self.assertEqual(burst_answers(box, frame, 0, 2, (A,), ((A,), (1,))), [(A,), (C,), (d,), (B,)])
        self.assertEqual(burst_answers(box, frame, 1, 3, (A, B), ((A,), (1,))), [(A, B), (C, d)])
        self.assertEqual(burst_answers(box, frame, 0, 4, (A, B), ((A, B), (2,))), [(A, B), (C, d)])
        # If there are no wires more nothing moves.
        self.assertEqual(burst_answers(box, frame, 20, 30, (A, B), ((A,), (0,))), [(B,)])
        self.assertEqual(burst_answers(box, frame, 20, 30, (A, B), ((A, B), (0,))), [()])
        self.assertEqual(burst_answers(EMPTY, frame, 20, 30, (), ((), (2,))), [])
        anew(self, burst_answers, box, frame, 1, 2, (A,), ((), (1,)))

    def test_answers_of_wide_frames(self):
        # Neither standings nor bursts are counted here.
        self.assertEqual(burst_answers(full(2, 6), ((6,),), 20, 30, (), ((), (1,))),
                         [(switch,) for switch in full(2, 6).switches])
        self.assertEqual(burst_answers(Box(5, 1, ()), ((99,) * 10,), 20, 30, (), ((), (3,) * 10)), [])


class Games(unittest.TestCase):
    def test_some_games(self):
        both = [0, 0]
        for rnd, box, frame, moves, many in some_games(81, 150):
            game = burst_game(box, frame, moves, many)
            kept, nodes = greatest_of(game), ranks_of(game, ())
            self.assertEqual(set(game) - kept, set(nodes))
            keeping, doom = burst_keeping(box, frame, moves, many), burst_doom(box, frame, moves, many)
            both[() in kept] += 1
            if () in kept:
                self.assertIsNone(doom)
                self.assertEqual(keeping, tuple(sorted(kept)))
                self.assertIs(is_burst_keeping(box, frame, moves, many, keeping), True)
                self.assertIs(is_burst_doom(box, frame, moves, many, nodes), False)
            else:
                self.assertIsNone(keeping)
                self.assertEqual(doom, nodes)
                ascending_dict(self, doom)
                self.assertIs(is_burst_doom(box, frame, moves, many, doom), True)
            self.spoiled(rnd, (box, frame, moves, many), game, kept, nodes)
        self.assertGreater(min(both), 25)

    def test_first_bursts_of_ends_and_wants(self):
        # Here ends alone, or wants alone, have answers, and a burst has not more askings than it may.
        for box, frame, moves, many in (
                (Box(4, 3, (((0, 2), (1, 1)), ((1, 2), (3, 0)), ((2, 1), (3, 1)), ((2, 2), (3, 0)))),
                 ((1, 0, 0, 0, 1, 1), (1, 0, 1, 0, 1, 0)), 2, 3),
                (Box(3, 3, (((0, 0), (1, 0)), ((0, 0), (1, 2)), ((0, 1), (1, 2)), ((0, 2), (1, 2)), ((0, 2), (2, 2)))),
                 ((0, 1, 1), (1, 0, 0)), 0, 3)):
            nodes = ranks_of(burst_game(box, frame, moves, many), ())
            self.assertTrue([burst for _, burst in nodes.values() if burst[0] and any(burst[1])])
            self.assertEqual(burst_doom(box, frame, moves, many), nodes)

    def test_ranks_of_ends(self):
        # One end more each time leads to what is lost.
        for box, frame, moves in (
                (Box(3, 2, (((0, 1), (2, 0)), ((1, 1), (2, 1)))), ((0, 1, 1), (1, 0, 0)), 1),
                (Box(3, 4, (((0, 2), (1, 0)), ((0, 3), (2, 3)), ((1, 3), (2, 0)))), ((0, 2, 0), (1, 0, 1)), 3),
                (Box(3, 2, (((0, 0), (1, 0)), ((0, 1), (1, 0)), ((1, 0), (2, 0)), ((1, 1), (2, 0)), ((1, 1), (2, 1)))),
                 ((0, 1, 0), (1, 0, 1)), 2)):
            for many in (1, 2, 3):
                nodes = ranks_of(burst_game(box, frame, moves, many), ())
                self.assertEqual(burst_doom(box, frame, moves, many), nodes)

    def spoiled(self, rnd, told, game, kept, nodes):
        for _ in range(3):
            thing = tuple(sorted(way for way in kept if rnd.random() < 0.9))
            self.assertIs(is_burst_keeping(*told, thing), is_kept(game, [()], thing))
        for way in rnd.sample(sorted(nodes), min(3, len(nodes))):
            less = {key: node for key, node in nodes.items() if key != way}
            other = {**nodes, way: (max(0, nodes[way][0] + rnd.choice([-1, 1])), nodes[way][1])}
            burst = {**nodes, way: (nodes[way][0], rnd.choice(list(game[way])))}
            for thing in (less, other, burst, dict(reversed(list(nodes.items())))):
                self.assertIs(is_burst_doom(*told, thing), is_doomed(game, [()], thing))

    def test_a_doom_may_be_less(self):
        lesser = 0
        for rnd, box, frame, moves, many in some_games(82, 80):
            game = burst_game(box, frame, moves, many)
            nodes = ranks_of(game, ())
            if () in nodes:
                needed, rest = {}, [()]
                while rest:
                    way = rest.pop()
                    needed[way] = nodes[way]
                    rest += [other for other in game[way][nodes[way][1]] if other not in needed]
                lesser += len(needed) < len(nodes)
                self.assertIs(is_burst_doom(box, frame, moves, many, needed), True)
        self.assertGreater(lesser, 10)

    def test_facts(self):
        for _, box, frame, moves, many in some_games(83, 80):
            self.assertEqual(burst_keeping(box, frame, moves, 1), greatest_keeping(box, frame, moves, ()))
            keeping = burst_keeping(box, frame, moves, many)
            if keeping is not None:
                for less in range(1, min(many, 4)):
                    self.assertIs(is_burst_keeping(box, frame, moves, less, keeping), True)
                self.assertIs(is_burst_keeping(box, frame, min(20, moves + 1), many, keeping), True)
            one_by_one = greatest_keeping(box, frame, moves, ())
            if one_by_one is not None and many * moves <= 20:
                self.assertIs(is_burst_keeping(box, frame, many * moves, many, one_by_one), True)
            still = burst_keeping(box, frame, 0, many)
            self.assertEqual(still, burst_keeping(box, frame, 0, 1))
            if still is not None:
                self.assertIs(is_keeping(box, frame, 0, (), still), True)

    def test_small(self):
        box, frame = plain(2, 2), ((2,),)
        self.assertEqual(burst_keeping(box, frame, 0, 30), ((), (A,), (A, B), (B,)))
        # With C standing one more wire moves it or has none.
        box = Box(2, 2, (A, C, B))
        self.assertEqual(burst_keeping(box, frame, 0, 30), ((), (A,), (A, B), (B,)))
        self.assertEqual(burst_keeping(box, frame, 1, 2), ((), (A,), (A, B), (C,), (B,)))
        self.assertEqual(burst_doom(plain(2, 1), frame, 20, 1), {(): (1, ((), (1,))), (A,): (0, ((), (1,)))})
        self.assertEqual(burst_doom(plain(2, 1), frame, 20, 2), {(): (0, ((), (2,))), (A,): (0, ((), (1,)))})
        self.assertEqual(burst_doom(EMPTY, ((2,),), 20, 2), {(): (0, ((), (1,)))})
        anew(self, burst_doom, plain(2, 1), frame, 20, 1)

    def test_frame_of_zeros(self):
        for box in (plain(2, 2), EMPTY, plain(4, 1)):
            frame = ((0,) * len(pairs_of(box.sides)),)
            for many in (1, 30):
                self.assertEqual(burst_keeping(box, frame, 0, many), ((),))
                self.assertIsNone(burst_doom(box, frame, 0, many))
                self.assertIs(is_burst_doom(box, frame, 0, many, {}), False)
                self.assertEqual(burst_moves(box, frame, many), 0)
            self.assertEqual(greatest_burst(box, frame, 0), 30)
            self.assertEqual(patience(box, frame, 0), 1)

    def test_example(self):
        self.assertEqual(least_moves(BOX_C, FRAME_C), 1)
        self.assertEqual([burst_moves(BOX_C, FRAME_C, many) for many in (1, 2, 3, 4, 8, 30)], [1, 2, 2, 2, 2, 2])
        self.assertEqual(greatest_burst(BOX_C, FRAME_C, 0), None)
        self.assertEqual(greatest_burst(BOX_C, FRAME_C, 1), 1)
        self.assertEqual(greatest_burst(BOX_C, FRAME_C, 2), 30)
        self.assertEqual([patience(BOX_C, FRAME_C, moves) for moves in (0, 1, 2)], [None, 1, 1])
        doom = burst_doom(BOX_C, FRAME_C, 1, 2)
        self.assertIs(is_burst_doom(BOX_C, FRAME_C, 1, 2, doom), True)
        self.assertIs(is_burst_keeping(BOX_C, FRAME_C, 2, 30, burst_keeping(BOX_C, FRAME_C, 2, 30)), True)


class Moves(unittest.TestCase):
    def test_some_numbers(self):
        for rnd, box, frame, _, many in some_games(84, 40, 20):
            carried = {count_load(box.sides, way) for way in every_way(box)}
            lacking = any(load not in carried for load in frame)
            wires = max(sum(load) for load in frame)
            needs = {}
            for most in range(1, 4):
                kept = [moves for moves in range(wires + 1) if () in greatest_of(burst_game(box, frame, moves, most))]
                needs[most] = kept[0] if kept else None
                self.assertEqual(burst_moves(box, frame, most), needs[most])
                self.assertEqual(needs[most] is None, lacking)
            if lacking:
                for moves in (0, 1, 20):
                    self.assertIsNone(greatest_burst(box, frame, moves))
                    self.assertIsNone(patience(box, frame, moves))
                continue
            self.assertEqual(needs[1], least_moves(box, frame))
            self.assertTrue(all(needs[most] <= min(14, most * needs[1]) for most in needs))
            self.assertEqual(list(needs.values()), sorted(needs.values()))
            self.longest(box, frame, needs)

    def longest(self, box, frame, needs):
        for moves in range(3):
            kept = [many for many in range(1, 31) if burst_keeping(box, frame, moves, many) is not None]
            self.assertEqual(greatest_burst(box, frame, moves), max(kept) if kept else None)
            if kept:
                self.assertEqual(kept, list(range(1, max(kept) + 1)))
            waits = [many for many in range(1, 31)
                     if burst_keeping(box, frame, min(20, many * moves), many) is not None]
            self.assertEqual(patience(box, frame, moves), waits[0] if waits else None)
            self.assertEqual(patience(box, frame, moves) == 1, needs[1] <= moves)
            if moves > 0:
                self.assertIsNotNone(patience(box, frame, moves))
            if waits:
                self.assertTrue(all(many in waits for many in range(waits[0], 31, waits[0])))

    def test_patience_above_one(self):
        self.assertEqual(burst_moves(*WAITING, 1), 2)
        self.assertEqual(patience(*WAITING, 1), 2)
        self.assertIsNone(patience(*WAITING, 0))
        self.assertEqual(patience(*WAITING, 2), 1)

    def test_ring(self):
        self.assertEqual(burst_moves(plain(4, 2), RING, 30), 0)
        self.assertEqual(greatest_burst(plain(4, 2), RING, 0), 30)
        self.assertEqual(patience(plain(4, 2), RING, 0), 1)


# One asking at once wants 2 moves, and so does each burst.
WAITING = (Box(3, 4, (((0, 0), (1, 1)), ((0, 0), (2, 2)), ((0, 1), (2, 3)), ((0, 2), (1, 3)), ((1, 3), (2, 0)))),
           ((1, 1, 1), (1, 2, 0)))


class Judged(unittest.TestCase):
    def test_is_burst_keeping(self):
        box, frame = plain(2, 2), ((2,),)
        right = ((), (A,), (A, B), (B,))
        self.assertIs(is_burst_keeping(box, frame, 0, 2, right), True)
        wrong = [(), ((),), right[1:], right[:-1], list(right), right[::-1], right + right[-1:], right + (None,), A,
                 ((), (A,), (B, A), (B,)), ((), (A,), (A, B), (B,), (C,)), [right], {way: True for way in right}]
        for thing in wrong + untrue(right) + listed(right) + any_values():
            self.assertIs(is_burst_keeping(box, frame, 0, 2, thing), False, thing)
        # A load that is not carried has no answer, as soon as so many askings make it.
        self.assertIs(is_burst_keeping(plain(2, 1), frame, 20, 1, ((), (A,))), False)
        self.assertIs(is_burst_keeping(plain(2, 1), frame, 20, 1, ((),)), False)
        self.assertIs(is_burst_keeping(plain(2, 1), ((1,),), 20, 30, ((), (A,))), True)
        for many in (1, 2, 3):
            self.assertIs(is_burst_keeping(box, ((3,),), 20, many, right), False)

    def test_is_burst_doom(self):
        box, frame = plain(2, 1), ((2,),)
        right = burst_doom(box, frame, 1, 1)
        self.assertIs(is_burst_doom(box, frame, 1, 1, right), True)
        # It is one for more at once, too, but with 1 at once no burst may be of two.
        self.assertIs(is_burst_doom(box, frame, 1, 2, right), True)
        great = {(): (0, ((), (2,)))}
        self.assertIs(is_burst_doom(box, frame, 1, 2, great), True)
        self.assertIs(is_burst_doom(box, frame, 1, 1, great), False)
        far = {way: (rank + 10 ** 6, burst) for way, (rank, burst) in right.items()}
        self.assertIs(is_burst_doom(box, frame, 1, 1, far), True)
        low = {way: (rank - 1, burst) for way, (rank, burst) in right.items()}
        flat = {way: (0, burst) for way, (rank, burst) in right.items()}
        less = {(): right[()]}
        wrong = [{}, low, flat, less, list(right.items()), {**right, 0: (0, ((), (1,)))}, {(A,): right[(A,)]},
                 {**right, (A,): (0, ((A,), (1,)))}, {**right, (A,): (0, ((), (0,)))}, {**right, (A,): (0,)},
                 {**right, (A,): (0, ((), (1, 0)))}, {**right, (A,): (0, ((), (1,)), 0)}, {**right, (A,): (0, None)}]
        for thing in wrong + untrue(right) + listed(right) + any_values():
            self.assertIs(is_burst_doom(box, frame, 1, 1, thing), False, thing)


def bursts_counted(frame, many, load):
    """How many bursts there are at a standing with the load, load by load."""
    total = -1
    for stay in product(*[range(number + 1) for number in load]):
        lots = prod(comb(high, low) for high, low in zip(load, stay))
        left = many - sum(load) + sum(stay)
        ways = [tuple(top[k] - stay[k] for k in range(len(stay))) for top in frame if under(stay, top)]
        total += lots * (loads_counted(ways, left) if left >= 0 else 0)
    return total


def loads_counted(tops, most):
    """How many loads of at most so many wires are below some of these."""
    total = 0
    for number in range(1, len(tops) + 1):
        for some in combinations(tops, number):
            ways = [1] + [0] * most
            for top in [min(load[k] for load in some) for k in range(len(some[0]))]:
                ways = [sum(ways[max(0, at - top):at + 1]) for at in range(most + 1)]
            total += (-1) ** (number + 1) * sum(ways)
    return total


class Refused(unittest.TestCase):
    def test_refusals(self):
        box, frame = plain(2, 2), ((2,),)
        frames = [((1, 1, 1),), [(2,)]] + untrue(((1,),))
        standings = [(B, A), (A, C), A, [A], ((0, 0), (1, 0))] + untrue((A, B)) + listed((A, B))
        refuse(self, bursts, [box, frame, 30, (A, B)], [BadBox, BadFrame, BadMany, BadStanding],
               {1: frames, 2: [0, 31], 3: standings})
        burst = ((A,), (1,))
        bad = [((), (0,)), ((B,), (0,)), ((A,), (2,)), ((), (2,)), [(A,), (1,)], ((A, A), (0,)), ((A,), (1, 0)),
               ((A,), (-1,)), ((A,), 1), (A, (0,)), ((A,),), (("want", (0, 1)))]
        refuse(self, burst_answers, [box, frame, 1, 2, (A,), burst],
               [BadBox, BadFrame, BadMoves, BadMany, BadStanding, BadBurst],
               {1: frames, 2: [21], 3: [0, 31], 4: standings, 5: bad + untrue(burst) + listed(burst)})
        for many in (1, 30):
            for function in (burst_keeping, burst_doom):
                refuse(self, function, [box, frame, 20, many], [BadBox, BadFrame, BadMoves, BadMany],
                       {1: frames, 2: [21], 3: [0, 31]})
        for function in (is_burst_keeping, is_burst_doom):
            refuse(self, function, [box, frame, 0, 30, None], [BadBox, BadFrame, BadMoves, BadMany, None],
                   {1: frames, 2: [21], 3: [0, 31]})
        refuse(self, burst_moves, [box, frame, 1], [BadBox, BadFrame, BadMany], {1: frames, 2: [0, 31]})
        for function in (greatest_burst, patience):
            refuse(self, function, [box, frame, 20], [BadBox, BadFrame, BadMoves], {1: frames, 2: [21]})

    def test_too_many_standings(self):
        every = [(burst_keeping, (0, 1)), (burst_doom, (0, 1)), (is_burst_keeping, (0, 1, None)),
                 (is_burst_doom, (0, 1, None)), (burst_moves, (1,)), (greatest_burst, (0,)), (patience, (0,))]
        for function, rest in every:
            # It comes ahead of TooMany(20000).
            too_many(self, 5000, function, tree_box(5001), EVERY, *rest)
            too_many(self, 5000, function, tree_box(20001), ((99,) * len(EVERY[0]),), *rest)
            with self.assertRaises((BadMoves, BadMany)):
                function(tree_box(5001), EVERY, -1, *rest[1:])
        self.assertIs(is_burst_keeping(tree_box(5000), EVERY, 0, 1, ()), False)
        self.assertIs(is_burst_doom(tree_box(5000), EVERY, 0, 1, {}), False)
        self.assertEqual(len(bursts(tree_box(5001), EVERY, 1, ())), sum(number > 0 for number in EVERY[0]))

    def check_bursts(self, box, frame, many, total):
        every = [(burst_keeping, (0, many)), (burst_doom, (0, many)), (is_burst_keeping, (0, many, None)),
                 (is_burst_doom, (0, many, None)), (burst_moves, (many,))]
        if many == 30:
            every += [(greatest_burst, (0,)), (patience, (0,))]
        for function, rest in every:
            if total > 20000:
                too_many(self, 20000, function, box, frame, *rest)
                with self.assertRaises((BadMoves, BadMany)):
                    function(box, frame, None, *rest[1:])
            else:
                told = function(box, frame, *rest)
                if isinstance(told, dict):
                    self.assertEqual(told[()], (0, ((), (0, 0, 0, 0, 0, 1))))
                else:
                    self.assertIn(told, (None, False))

    def test_too_many_bursts(self):
        box = Box(4, 1, ())
        cases = [(total, frame, 30) for total, frame in JUST.items()]
        cases += [(total, frame, many) for total, (frame, many) in JUST_MANY.items()]
        for total, frame, many in cases:
            self.assertEqual(bursts_counted(frame, many, (0,) * 6), total)
            if total > 20000:
                too_many(self, 20000, bursts, box, frame, many, ())
                with self.assertRaises(BadStanding):
                    bursts(box, frame, many, None)
            else:
                found = bursts(box, frame, many, ())
                self.assertEqual(len(found), total)
                self.assertEqual(found, sorted(found))
            self.check_bursts(box, frame, many, total)
            # With fewer at once there are fewer bursts.
            self.check_bursts(box, frame, 2, 0)

    def test_too_many_bursts_at_some_standing(self):
        # At the standing of no wires there are few enough, but not at that of one wire.
        one = ((0, 0), (3, 0))
        box, frame = Box(4, 1, (one,)), JUST[20000]
        more = bursts_counted(frame, 30, (0, 0, 1, 0, 0, 0))
        self.assertGreater(more, 20000)
        self.assertEqual(len(bursts(box, frame, 30, ())), 20000)
        too_many(self, 20000, bursts, box, frame, 30, (one,))
        self.check_bursts(box, frame, 30, more)

    def test_just_so_many_bursts_at_some_standing(self):
        one = ((0, 0), (3, 0))
        box = Box(4, 1, (one,))
        for total, many, frame in ((20000, 16, ((1, 0, 6, 5, 4, 5), (6, 6, 1, 5, 5, 3))),
                                   (20001, 14, ((2, 4, 3, 4, 6, 5), (5, 6, 2, 1, 3, 4))),
                                   (20001, 30, ((2, 8, 4, 2, 8, 1), (7, 7, 0, 7, 1, 6)))):
            self.assertEqual(bursts_counted(frame, many, (0, 0, 1, 0, 0, 0)), total)
            self.assertLess(len(bursts(box, frame, many, ())), 20000)
            if total > 20000:
                too_many(self, 20000, bursts, box, frame, many, (one,))
            else:
                self.assertEqual(len(bursts(box, frame, many, (one,))), total)
            self.check_bursts(box, frame, many, total)

    def test_some_counts(self):
        for rnd, box, frame, _, many in some_games(85, 40):
            for standing in every_standing(box, frame):
                self.assertEqual(bursts_counted(frame, many, count_load(box.sides, standing)),
                                 len(every_burst(box, frame, many, standing)))

    def test_far_too_many(self):
        for box in (Box(5, 1, ()), full(5, 1)):
            frame = ((99,) * 10,)
            too_many(self, 20000, bursts, box, frame, 30, ())
            too_many(self, 20000, patience, box, frame, 0)
            self.assertIsNone(burst_keeping(box, frame, 0, 1))


if __name__ == "__main__":
    unittest.main()
