"""Points 100 and 101: switches that break while wires are asked for and given up."""

import random
import unittest

from allcalls.boxes import Box, full, plain, without
from allcalls.breakgames import (break_answers, break_doom, break_keeping, break_play, is_break_doom, is_break_keeping,
                                 least_break_moves, positions, to_answer)
from allcalls.breaks import holds_through
from allcalls.dooms import least_moves
from allcalls.errors import (BadAsking, BadBox, BadFrame, BadLine, BadMoves, BadNumber, BadPosition)
from allcalls.keepings import greatest_keeping
from tests.helpers import (any_values, anew, ascending_dict, count_load, every_answer, every_asking, every_standing,
                           greatest_of, is_doomed, is_kept, listed, pairs_of, refuse, some_box, some_frame, too_many,
                           untrue)
from tests.test_breaks import every_lot
from tests.test_frames import tree_box
from tests.test_keepings import EVERY

A = ((0, 0), (1, 0))
B = ((0, 1), (1, 1))
C = ((0, 0), (1, 1))
D = ((0, 1), (1, 0))
WANT = ("want", (0, 1))
EMPTY = Box(2, 1, ())
START = ((), ())

# Boxes and frames with just so many positions, with so many switches that may break.
JUST = {
    (5000, 4): (Box(4, 3, (((0, 0), (2, 1)), ((0, 1), (2, 2)), ((0, 2), (1, 0)), ((0, 2), (2, 1)), ((1, 0), (3, 0)),
                           ((1, 0), (3, 1)), ((1, 2), (2, 1)), ((1, 2), (3, 0)), ((2, 2), (3, 0)))),
                ((1, 2, 2, 2, 1, 2),)),
    (5001, 4): (Box(3, 4, (((0, 0), (2, 3)), ((0, 1), (1, 1)), ((0, 1), (1, 3)), ((0, 1), (2, 1)), ((0, 1), (2, 3)),
                           ((0, 2), (1, 1)), ((0, 3), (1, 0)), ((1, 0), (2, 1)), ((1, 2), (2, 1)), ((1, 2), (2, 2)))),
                ((0, 2, 1), (2, 0, 0))),
    (5001, 3): (Box(4, 4, (((0, 1), (1, 0)), ((0, 1), (2, 0)), ((0, 2), (1, 2)), ((0, 2), (2, 3)), ((0, 3), (2, 2)),
                           ((0, 3), (3, 2)), ((1, 0), (2, 2)), ((1, 0), (3, 2)), ((1, 0), (3, 3)), ((1, 2), (2, 1)),
                           ((2, 3), (3, 3)))), ((1, 1, 0, 1, 0, 1),)),
}


def every_position(box, frame, number):
    return sorted((gone, way) for gone in every_lot(box.switches, number)
                  for way in every_standing(without(box, gone), frame))


def all_to_answer(box, frame, number, position):
    gone, way = position
    found = list(every_asking(box, frame, way))
    if len(gone) < number:
        found += [("break", switch) for switch in box.switches if switch not in gone]
    return sorted(found)


def all_answers(box, moves, position, asked, known):
    """The answers among the positions, which are given as a dict from lots to standings."""
    gone, way = position
    if asked[0] != "break":
        return [(gone, other) for other in every_answer(box, moves, way, asked, known[gone])]
    less = tuple(sorted(gone + (asked[1],)))
    load = count_load(box.sides, way)
    return [(less, other) for other in known[less]
            if count_load(box.sides, other) == load and len(set(way) - set(other) - {asked[1]}) <= moves]


def break_game(box, frame, moves, number):
    """The dict from all positions to dicts from what is to be answered to all answers."""
    known = {}
    every = every_position(box, frame, number)
    for gone, way in every:
        known.setdefault(gone, []).append(way)
    return {position: {asked: all_answers(box, moves, position, asked, known)
                       for asked in all_to_answer(box, frame, number, position)} for position in every}


def some_games(seed, many, wide=250):
    rnd = random.Random(seed)
    done = 0
    while done < many:
        box = some_box(rnd, rnd.randint(2, 3), rnd.randint(1, 3), 6)
        frame = some_frame(rnd, box.sides, 2, 2)
        number = rnd.choice([0, 1, 1, 2, 2, 3, 6])
        if len(every_position(box, frame, number)) <= wide:
            done += 1
            yield rnd, box, frame, rnd.choice([0, 0, 1, 1, 2, 20]), number


class Positions(unittest.TestCase):
    def test_small(self):
        box, frame = plain(2, 2), ((1,),)
        self.assertEqual(positions(box, frame, 0), [((), ()), ((), (A,)), ((), (B,))])
        self.assertEqual(positions(box, frame, 1), [
            ((), ()), ((), (A,)), ((), (B,)), ((A,), ()), ((A,), (B,)), ((B,), ()), ((B,), (A,))])
        self.assertEqual(positions(box, frame, 2)[5:7], [((A, B), ()), ((B,), ())])
        self.assertEqual(positions(box, frame, 2), positions(box, frame, 6))
        self.assertEqual(to_answer(box, frame, 0, ((), (A,))), [("end", A)])
        self.assertEqual(to_answer(box, frame, 1, ((), (A,))), [("break", A), ("break", B), ("end", A)])
        self.assertEqual(to_answer(box, frame, 2, ((B,), ())), [("break", A), WANT])
        self.assertEqual(to_answer(box, frame, 1, ((B,), ())), [WANT])
        self.assertEqual(break_answers(box, frame, 0, 1, ((), (A,)), ("break", A)), [((A,), (B,))])
        self.assertEqual(break_answers(box, frame, 0, 1, ((), (A,)), ("break", B)), [((B,), (A,))])
        self.assertEqual(break_answers(box, frame, 0, 2, ((B,), (A,)), ("break", A)), [])
        self.assertEqual(break_answers(box, frame, 0, 2, ((B,), (A,)), ("end", A)), [((B,), ())])
        self.assertEqual(break_answers(box, frame, 0, 2, ((B,), ()), WANT), [((B,), (A,))])
        self.assertEqual(positions(EMPTY, ((0,),), 6), [((), ())])
        self.assertEqual(to_answer(EMPTY, ((0,),), 6, START), [])
        anew(self, positions, box, frame, 1)
        anew(self, to_answer, box, frame, 1, ((), (A,)))
        anew(self, break_answers, box, frame, 0, 1, ((), (A,)), ("break", A))

    def test_the_broken_one_is_not_moved(self):
        box, frame = full(2, 2), ((2,),)
        self.assertEqual(break_answers(box, frame, 0, 1, ((), (A, B)), ("break", A)), [])
        self.assertEqual(break_answers(box, frame, 1, 1, ((), (A, B)), ("break", A)), [((A,), (C, D))])
        # A switch that is no wire may break, and wires may be moved then, too.
        self.assertEqual(break_answers(box, frame, 2, 1, ((), (C, D)), ("break", A)), [((A,), (C, D))])
        self.assertEqual(break_answers(box, frame, 2, 1, ((), (C, D)), ("break", C)), [((C,), (A, B))])
        self.assertEqual(break_answers(box, ((1,),), 0, 1, ((), (A,)), ("break", B)), [((B,), (A,))])
        self.assertEqual(break_answers(box, ((1,),), 1, 1, ((), (A,)), ("break", B)),
                         [((B,), (A,)), ((B,), (C,)), ((B,), (D,))])

    def test_some_positions(self):
        for rnd, box, frame, moves, number in some_games(100, 60):
            every = every_position(box, frame, number)
            self.assertEqual(positions(box, frame, number), every)
            game = break_game(box, frame, moves, number)
            for position in rnd.sample(every, min(8, len(every))):
                self.assertEqual(to_answer(box, frame, number, position), list(game[position]))
                for asked, found in game[position].items():
                    self.assertEqual(break_answers(box, frame, moves, number, position, asked), found)


class Games(unittest.TestCase):
    def test_example(self):
        box, frame = plain(2, 2), ((1,),)
        self.assertEqual(break_keeping(box, frame, 0, 1), tuple(positions(box, frame, 1)))
        self.assertIsNone(break_doom(box, frame, 0, 1))
        self.assertIsNone(break_keeping(box, frame, 0, 2))
        doom = {START: (2, ("break", A)), ((A,), ()): (1, ("break", B)), ((A, B), ()): (0, WANT)}
        self.assertIs(is_break_doom(box, frame, 0, 2, doom), True)
        self.assertIs(is_break_doom(box, frame, 0, 2, break_doom(box, frame, 0, 2)), True)
        self.assertIs(is_break_doom(box, frame, 0, 1, doom), False)
        self.assertEqual(least_break_moves(box, frame, 1), 0)
        self.assertIsNone(least_break_moves(box, frame, 2))

    def test_some_games(self):
        both = [0, 0]
        for rnd, box, frame, moves, number in some_games(101, 130):
            game = break_game(box, frame, moves, number)
            kept = greatest_of(game)
            told = (box, frame, moves, number)
            keeping, doom = break_keeping(*told), break_doom(*told)
            both[START in kept] += 1
            if START in kept:
                self.assertIsNone(doom)
                self.assertEqual(keeping, tuple(sorted(kept)))
                self.assertIs(is_break_keeping(*told, keeping), True)
            else:
                self.assertIsNone(keeping)
                self.assertTrue(is_doomed(game, [START], doom))
                self.assertIs(is_break_doom(*told, doom), True)
                ascending_dict(self, doom)
            for _ in range(3):
                thing = tuple(sorted(place for place in kept if rnd.random() < 0.95))
                self.assertIs(is_break_keeping(*told, thing), is_kept(game, [START], thing))
            self.spoiled(rnd, told, game, doom or {})
        self.assertGreater(min(both), 25)

    def spoiled(self, rnd, told, game, nodes):
        for place in rnd.sample(sorted(nodes), min(3, len(nodes))):
            less = {key: node for key, node in nodes.items() if key != place}
            other = {**nodes, place: (max(0, nodes[place][0] + rnd.choice([-1, 1])), nodes[place][1])}
            asked = {**nodes, place: (nodes[place][0], rnd.choice(list(game[place])))}
            for thing in (less, other, asked, dict(reversed(list(nodes.items())))):
                self.assertIs(is_break_doom(*told, thing), is_doomed(game, [START], thing))

    def test_least_moves(self):
        told = {}
        for _, box, frame, _, number in some_games(102, 80, 150):
            least = least_break_moves(box, frame, number)
            enough = max(sum(load) for load in frame)
            kept = [moves for moves in range(enough + 2)
                    if START in greatest_of(break_game(box, frame, moves, number))]
            self.assertEqual(least, kept[0] if kept else None)
            self.assertEqual(least is None, not holds_through(box, frame, number))
            if least is not None:
                self.assertEqual(kept, list(range(least, enough + 2)))
                self.assertLessEqual(least, enough)
            if number == 0:
                self.assertEqual(least, least_moves(box, frame))
                self.assertEqual([way for _, way in break_keeping(box, frame, 1, 0) or ()],
                                 list(greatest_keeping(box, frame, 1, ()) or ()))
            elif least is not None:
                self.assertLessEqual(least_break_moves(box, frame, number - 1), least)
            told[least] = told.get(least, 0) + 1
        self.assertGreater(min(told[key] for key in (None, 0)), 10)

    def test_moves_that_breaks_need(self):
        # One by one nothing is moved, but a break may want both wires laid anew.
        self.assertEqual(least_break_moves(full(2, 2), ((2,),), 0), 0)
        self.assertEqual(least_break_moves(full(2, 2), ((2,),), 1), 1)
        self.assertIsNone(least_break_moves(full(2, 2), ((2,),), 2))
        game = break_game(full(2, 2), ((2,),), 0, 1)
        self.assertNotIn(START, greatest_of(game))

    def test_zeros(self):
        for box in (EMPTY, plain(3, 1)):
            frame = ((0,) * len(pairs_of(box.sides)),)
            for number in (0, 1, 6):
                found = tuple((lot, ()) for lot in sorted(every_lot(box.switches, number)))
                self.assertEqual(break_keeping(box, frame, 0, number), found)
                self.assertIsNone(break_doom(box, frame, 0, number))
                self.assertEqual(least_break_moves(box, frame, number), 0)
                self.assertIs(is_break_doom(box, frame, 0, number, {}), False)
        self.assertEqual(break_doom(EMPTY, ((1,),), 20, 6), {START: (0, WANT)})
        self.assertIsNone(least_break_moves(EMPTY, ((1,),), 0))

    def test_play(self):
        box, frame = plain(2, 2), ((2,),)
        line = [(WANT, ((), (A,))), (("break", A), ((A,), (B,))), (("end", B), ((A,), ()))]
        self.assertEqual(break_play(box, frame, 0, 1, []), START)
        for many in range(1, 4):
            self.assertEqual(break_play(box, frame, 0, 1, line[:many]), line[many - 1][1])
        self.assertEqual(break_play(box, frame, 0, 1, tuple(line)), ((A,), ()))
        wrong = [
            (0, (("end", A), START)), (0, (WANT, START)), (0, (WANT, ((), (A, B)))), (0, (WANT, ((A,), (B,)))),
            (1, (("break", A), ((A,), ()))), (1, (("break", A), ((), (B,)))), (1, (("break", A), ((B,), (A,)))),
            (2, (("break", B), ((A, B), ()))), (2, (("end", B), ((), ()))), (2, (("end", B), ((A,), (B,)))),
            (3, (("break", B), ((A, B), ()))), (3, (WANT, ((A,), (A,)))), (1, (("break", C), ((), (A,)))), (0, WANT),
            (1, None), (2, 7), (0, [WANT, ((), (A,))]), (1, (("break", A), [(A,), (B,)])), (2, (("end", B),)),
            (1, (("break", A), ((A,), (B,)), 0)), (0, (["want", (0, 1)], ((), (A,))))]
        for at, item in wrong:
            spoiled = line + [(WANT, ((A,), (B,)))]
            spoiled[at] = item
            for thing in (spoiled, spoiled + [None], tuple(spoiled)):
                with self.assertRaises(BadLine) as told:
                    break_play(box, frame, 0, 1, thing)
                self.assertEqual(told.exception.at, at)
        for other in untrue(line) + [row for row in listed(line) if isinstance(row, list)]:
            with self.assertRaises(BadLine) as told:
                break_play(box, frame, 0, 1, other)
            self.assertEqual(told.exception.at, [one == two for one, two in zip(map(repr, line), map(repr, other))]
                             .index(False))
        for thing in (None, 7, "", "want", {}, {0: WANT}, True, EMPTY):
            with self.assertRaises(BadLine) as told:
                break_play(box, frame, 0, 1, thing)
            self.assertIsNone(told.exception.at)

    def test_some_plays(self):
        for rnd, box, frame, moves, number in some_games(103, 60):
            game = break_game(box, frame, moves, number)
            position, line = START, []
            for _ in range(8):
                choices = [(asked, found) for asked, found in game[position].items() if found]
                if not choices:
                    break
                asked, found = rnd.choice(choices)
                position = rnd.choice(found)
                line.append((asked, position))
                self.assertEqual(break_play(box, frame, moves, number, line), position)
            if line:
                at = rnd.randrange(len(line))
                before = START if at == 0 else line[at - 1][1]
                other = rnd.choice(list(game))
                if other not in game[before][line[at][0]]:
                    with self.assertRaises(BadLine) as told:
                        break_play(box, frame, moves, number, line[:at] + [(line[at][0], other)] + line[at + 1:])
                    self.assertEqual(told.exception.at, at)


class Judged(unittest.TestCase):
    def test_is_break_keeping(self):
        box, frame = plain(2, 2), ((1,),)
        right = break_keeping(box, frame, 0, 1)
        self.assertIs(is_break_keeping(box, frame, 0, 1, right), True)
        # Without the second wire of two one is kept as well.
        less = tuple(place for place in right if place != ((), (B,)))
        self.assertIs(is_break_keeping(box, frame, 0, 1, less), True)
        wrong = [(), (START,), right[1:], right[:-1], list(right), right[::-1], right + right[-1:], right + (None,),
                 right + (((B,), (B,)),), right + (((C,), ()),), right + (((A, B), ()),), [right], START, dict(right)]
        for thing in wrong + untrue(right) + listed(right) + any_values():
            self.assertIs(is_break_keeping(box, frame, 0, 1, thing), False, thing)
        for number in (0, 2):
            self.assertIs(is_break_keeping(box, frame, 0, number, right), False)

    def test_is_break_doom(self):
        box, frame = plain(2, 2), ((1,),)
        right = {START: (2, ("break", A)), ((A,), ()): (1, ("break", B)), ((A, B), ()): (0, WANT)}
        self.assertIs(is_break_doom(box, frame, 0, 2, right), True)
        self.assertIs(is_break_doom(box, frame, 20, 2, dict(reversed(list(right.items())))), True)
        far = {place: (rank + 10 ** 6, asked) for place, (rank, asked) in right.items()}
        self.assertIs(is_break_doom(box, frame, 0, 2, far), True)
        low = {place: (rank - 1, asked) for place, (rank, asked) in right.items()}
        flat = {place: (0, asked) for place, (rank, asked) in right.items()}
        wrong = [{}, low, flat, list(right.items()), {**right, 0: (0, WANT)}, {**right, ((A,), ()): (1, ("break", A))},
                 {**right, ((A,), ()): (1, ("end", B))}, {**right, ((A, B), ()): (0, ("break", A))},
                 {**right, ((A, B), ()): (0,)}, {**right, ((A, B), ()): (0, WANT, 0)}, {**right, ((C,), ()): (9, WANT)},
                 {**right, ((A,), (A,)): (0, WANT)}, {place: right[place] for place in list(right)[1:]}]
        for thing in wrong + untrue(right) + listed(right) + any_values():
            self.assertIs(is_break_doom(box, frame, 0, 2, thing), False, thing)
        self.assertIs(is_break_doom(box, frame, 0, 1, right), False)
        anew(self, break_doom, box, frame, 0, 2)

    def test_wide_games(self):
        # The judges raise no TooMany.
        box, frame = full(2, 6), ((6,),)
        self.assertIs(is_break_keeping(box, frame, 0, 6, (START,)), False)
        self.assertIs(is_break_doom(box, frame, 0, 6, {START: (0, WANT)}), False)
        self.assertIs(is_break_doom(Box(2, 6, ()), frame, 20, 6, {START: (0, WANT)}), True)
        self.assertEqual(break_play(box, frame, 0, 6, [(("break", A), ((A,), ()))]), ((A,), ()))
        self.assertEqual(len(to_answer(box, frame, 6, START)), 37)
        self.assertEqual(break_answers(box, frame, 0, 6, START, ("break", A)), [((A,), ())])
        zeros = ((0,),)
        self.assertIs(is_break_keeping(tree_box(5001), ((0,) * len(EVERY[0]),), 0, 0, (START,)), True)
        every = tuple((lot, ()) for lot in sorted(every_lot(box.switches, 3)))
        self.assertGreater(len(every), 5000)
        self.assertIs(is_break_keeping(box, zeros, 0, 3, every), True)


class Refused(unittest.TestCase):
    def test_refusals(self):
        box, frame = plain(2, 2), ((2,),)
        frames = [((1, 1, 1),), [(2,)]] + untrue(((1,),))
        numbers = [7, "1"]
        position = ((A,), (B,))
        places = [((A,), (A,)), ((A, B), ()), ((C,), ()), ((), (C,)), [(A,), (B,)], (A, (B,)), ((A,),), ((A,), (B,), 0)]
        places += untrue(position) + listed(position)
        refuse(self, positions, [box, frame, 6], [BadBox, BadFrame, BadNumber], {1: frames, 2: numbers})
        refuse(self, to_answer, [box, frame, 1, position], [BadBox, BadFrame, BadNumber, BadPosition],
               {1: frames, 2: numbers, 3: places})
        asked = ("end", B)
        bad = [("end", A), ("break", A), ("break", B), ("break", C), ("want", (1, 0)), ("want", B), ["end", B], ("end",),
               ("ask", B), ("end", B, 0)] + untrue(asked) + listed(asked)
        refuse(self, break_answers, [box, frame, 20, 1, position, asked],
               [BadBox, BadFrame, BadMoves, BadNumber, BadPosition, BadAsking],
               {1: frames, 2: [21], 3: numbers, 4: places, 5: bad})
        for function in (break_keeping, break_doom):
            refuse(self, function, [box, frame, 20, 1], [BadBox, BadFrame, BadMoves, BadNumber],
                   {1: frames, 2: [21], 3: numbers})
        for function in (is_break_keeping, is_break_doom):
            refuse(self, function, [box, frame, 0, 6, None], [BadBox, BadFrame, BadMoves, BadNumber, None],
                   {1: frames, 2: [21], 3: numbers})
        refuse(self, least_break_moves, [box, frame, 0], [BadBox, BadFrame, BadNumber], {1: frames, 2: numbers})
        refuse(self, break_play, [box, frame, 20, 6, []], [BadBox, BadFrame, BadMoves, BadNumber, None],
               {1: frames, 2: [21], 3: numbers})

    def test_too_many(self):
        for (many, number), (box, frame) in JUST.items():
            self.assertEqual(len(every_position(box, frame, number)), many)
            every = [(positions, (number,)), (break_keeping, (0, number)), (break_doom, (0, number)),
                     (least_break_moves, (number,))]
            for function, rest in every:
                if many > 5000:
                    too_many(self, 5000, function, box, frame, *rest)
                    with self.assertRaises((BadMoves, BadNumber)):
                        function(box, frame, None, *rest[1:])
                elif function == positions:
                    self.assertEqual(len(positions(box, frame, number)), many)
                else:
                    function(box, frame, *rest)
            self.assertIs(is_break_keeping(box, frame, 0, number, ()), False)
            self.assertIs(is_break_doom(box, frame, 0, number, {}), False)
        self.assertEqual(len(positions(tree_box(5000), EVERY, 0)), 5000)
        too_many(self, 5000, positions, tree_box(5001), EVERY, 0)
        too_many(self, 5000, break_keeping, tree_box(20001), EVERY, 0, 0)
        # Also if it were None.
        too_many(self, 5000, least_break_moves, full(2, 6), ((99,),), 1)
        too_many(self, 5000, least_break_moves, full(3, 6), ((0, 0, 0),), 2)
        self.assertEqual(least_break_moves(full(3, 6), ((0, 0, 0),), 1), 0)


if __name__ == "__main__":
    unittest.main()
