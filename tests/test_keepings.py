"""Point 50: keepings and strategies."""

import random
import unittest

from allcalls.boxes import Box, crossed, full, plain
from allcalls.errors import BadBarred, BadBox, BadFrame, BadMoves
from allcalls.frames import greatest_loads, standings
from allcalls.keepings import greatest_keeping, is_keeping, is_strategy, strategy
from tests.helpers import (any_values, anew, ascending_dict, count_load, game_of, kept_of, listed, refuse, some_box,
                           some_frame, too_many, untrue)
from tests.test_frames import tree_box

A = ((0, 0), (1, 0))
B = ((0, 1), (1, 1))
E = ((0, 2), (1, 2))
PAIR = (0, 1)
RING = ((1, 0, 1, 1, 0, 1),)
EVERY = ((15,) * 10,)


def is_kept(game, barred, thing):
    """Whether a tuple of standings is a keeping, by the document's words."""
    return list(thing) == sorted(set(thing)) and () in thing and not set(thing) & set(barred) and all(
        set(found) & set(thing) for way in thing for found in game[way].values())


def some_games(seed, many):
    rnd = random.Random(seed)
    for _ in range(many):
        box = some_box(rnd, rnd.randint(2, 4), rnd.randint(1, 3), 8)
        frame = some_frame(rnd, box.sides, 2, 3)
        moves = rnd.choice([0, 0, 1, 1, 2, 20])
        game = game_of(box, frame, moves)
        ways = sorted(game)
        barred = tuple(sorted(rnd.sample(ways, min(len(ways), rnd.choice([0, 0, 1, 2])))))
        yield rnd, box, frame, moves, barred, game


class Keepings(unittest.TestCase):
    def test_small(self):
        box, frame = plain(2, 2), ((1,),)
        self.assertEqual(greatest_keeping(box, frame, 0, ()), ((), (A,), (B,)))
        self.assertEqual(greatest_keeping(box, frame, 0, ((A,),)), ((), (B,)))
        self.assertIsNone(greatest_keeping(box, frame, 0, ((A,), (B,))))
        self.assertIsNone(greatest_keeping(box, frame, 0, ((),)))
        self.assertIsNone(greatest_keeping(plain(2, 1), ((2,),), 20, ()))
        self.assertEqual(greatest_keeping(Box(2, 1, ()), ((0,),), 0, ()), ((),))
        self.assertIsNone(greatest_keeping(Box(2, 1, ()), ((0,),), 0, ((),)))

    def test_some_games(self):
        for rnd, box, frame, moves, barred, game in some_games(50, 150):
            kept = greatest_keeping(box, frame, moves, barred)
            self.assertEqual(kept, kept_of(game, barred))
            if kept is not None:
                self.assertIs(is_keeping(box, frame, moves, barred, kept), True)
            for _ in range(4):
                ways = list(kept) if kept and rnd.random() < 0.7 else sorted(game)
                thing = tuple(sorted(rnd.sample(ways, max(1, len(ways) - rnd.randint(0, 3)))))
                self.assertIs(is_keeping(box, frame, moves, barred, thing), is_kept(game, barred, thing))

    def test_smaller_keepings(self):
        # A part of the greatest keeping is one if it is closed in itself.
        box, frame = plain(2, 3), ((2,),)
        self.assertIs(is_keeping(box, frame, 0, (), ((), (A,), (A, B), (B,))), True)
        self.assertIs(is_keeping(box, frame, 0, (), ((), (A,), (A, B))), False)
        self.assertIs(is_keeping(box, frame, 0, (), ((), (A,), (B,))), False)
        self.assertIs(is_keeping(box, frame, 0, (), ((A,), (A, B), (B,))), False)
        self.assertIs(is_keeping(box, ((1,),), 0, (), ((), (A,))), True)
        self.assertIs(is_keeping(box, ((1,),), 0, ((B,),), ((), (A,))), True)
        self.assertIs(is_keeping(box, ((1,),), 0, ((A,),), ((), (A,))), False)
        self.assertIs(is_keeping(box, ((1,),), 0, ((A,),), ((), (B,))), True)

    def test_moves_count_what_is_missing(self):
        one, two, cross = ((0, 0), (1, 1)), ((0, 1), (1, 0)), plain(2, 2)
        box = Box(2, 3, tuple(sorted((A, one, two, ((0, 2), (1, 0))))))
        frame = ((2,),)
        keeping = greatest_keeping(box, frame, 1, ())
        self.assertEqual(keeping, kept_of(game_of(box, frame, 1), ()))
        self.assertIs(is_keeping(box, frame, 0, (), keeping), is_kept(game_of(box, frame, 0), (), keeping))
        self.assertIsNotNone(greatest_keeping(cross, frame, 0, ()))

    def test_what_is_no_keeping(self):
        box, frame = plain(2, 2), ((2,),)
        right = ((), (A,), (A, B), (B,))
        self.assertIs(is_keeping(box, frame, 0, (), right), True)
        wrong = [(), right[1:], right[:3], list(right), right[::-1], right + ((B,),), right + (None,), [right], {}, (),
                 {(): 0}, ((), [A], (A, B), (B,)), ((), (A,), (B, A), (B,)), ((),), ((), (A, A)), right + ((E,),)]
        for thing in wrong + untrue(right) + listed(right) + any_values():
            self.assertIs(is_keeping(box, frame, 0, (), thing), False, thing)

    def test_refusals(self):
        box, frame = plain(2, 3), ((2,),)
        barred = ((A,), (A, B))
        wrong = {1: [((1, 1, 1),), [(1,)]] + untrue(((1,),)), 2: [21, "1"],
                 3: [barred[::-1], list(barred), ((A,), (A,)), ((E, A),), ((A, B, E),), (A,), ((C3,),)]
                 + untrue(barred) + listed(barred)}
        for function in (greatest_keeping, strategy):
            refuse(self, function, [box, frame, 1, barred], [BadBox, BadFrame, BadMoves, BadBarred], wrong)
        for function in (is_keeping, is_strategy):
            refuse(self, function, [box, frame, 20, barred, ()], [BadBox, BadFrame, BadMoves, BadBarred, None], wrong)

    def test_too_many(self):
        just, more = tree_box(5000), tree_box(5001)
        self.assertEqual(len(standings(just, EVERY)), 5000)
        for function in (greatest_keeping, strategy):
            self.assertIsNone(function(just, EVERY, 0, ()))
            too_many(self, 5000, function, more, EVERY, 0, ())
            # The number of standings counts, not whether all are needed.
            too_many(self, 5000, function, more, EVERY, 0, ((),))
            with self.assertRaises(BadBarred):
                function(more, EVERY, 0, [])
        self.assertIs(is_keeping(more, EVERY, 0, (), ((),)), False)
        self.assertIs(is_strategy(more, EVERY, 0, (), {}), False)
        great, frame = full(5, 6), ((0,) * 9 + (2,),)
        far = [((3, track), (4, track)) for track in range(6)]
        keeping = ((), (far[0],), (far[0], far[1]), (far[1],))
        self.assertIs(is_keeping(great, frame, 0, (), keeping), True)
        self.assertIs(is_keeping(great, greatest_loads(5, 4), 0, (), keeping), False)

    def test_facts(self):
        for rnd, box, frame, moves, barred, game in some_games(51, 40):
            kept = greatest_keeping(box, frame, moves, barred)
            if kept is None:
                continue
            self.assertIs(is_keeping(box, frame, min(20, moves + 1), barred, kept), True)
            self.assertIs(is_keeping(full(box.sides, box.tracks), frame, moves, barred, kept), True)
            self.assertIs(is_keeping(box, frame, moves, (), kept), True)
            below = some_frame(rnd, box.sides, 1, 2)
            if all(any(all(x <= y for x, y in zip(low, top)) for top in frame) for low in below):
                part = tuple(way for way in kept if any(
                    all(x <= y for x, y in zip(count_load(box.sides, way), low)) for low in below))
                self.assertIs(is_keeping(box, below, moves, barred, part), True)


C3 = ((0, 0), (2, 0))


class Strategies(unittest.TestCase):
    def test_small(self):
        self.assertEqual(strategy(plain(2, 2), ((1,),), 0, ()), {((), PAIR): (A,)})
        self.assertEqual(strategy(plain(2, 2), ((1,),), 0, ((A,),)), {((), PAIR): (B,)})
        self.assertEqual(strategy(plain(2, 2), ((2,),), 0, ()),
                         {((), PAIR): (A,), ((A,), PAIR): (A, B), ((B,), PAIR): (A, B)})
        self.assertIsNone(strategy(plain(2, 2), ((3,),), 0, ()))
        self.assertEqual(strategy(Box(2, 1, ()), ((0,),), 0, ()), {})
        self.assertIsNone(strategy(Box(2, 1, ()), ((0,),), 0, ((),)))
        anew(self, strategy, plain(2, 2), ((2,),), 0, ())

    def test_some_games(self):
        for _, box, frame, moves, barred, game in some_games(52, 100):
            kept, told = kept_of(game, barred), strategy(box, frame, moves, barred)
            if kept is None:
                self.assertIsNone(told)
                continue
            plainly = {(way, asking[1]): min(set(found) & set(kept)) for way in kept
                       for asking, found in game[way].items() if asking[0] == "want"}
            self.assertEqual(told, plainly)
            ascending_dict(self, told)
            self.assertIs(is_strategy(box, frame, moves, barred, told), True)
            self.assertIs(is_strategy(box, frame, min(20, moves + 1), barred, told), True)

    def test_is_strategy(self):
        box, frame = plain(2, 3), ((2,),)
        right = {((), PAIR): (A,), ((A,), PAIR): (A, B), ((B,), PAIR): (A, B)}
        self.assertIs(is_strategy(box, frame, 0, (), right), True)
        self.assertIs(is_strategy(box, frame, 0, (), dict(reversed(list(right.items())))), True)
        # Other keys are without meaning, but have to be right.
        self.assertIs(is_strategy(box, frame, 0, (), {**right, ((E,), PAIR): (A, E)}), True)
        self.assertIs(is_strategy(box, frame, 0, (), {**right, ((E,), PAIR): (A, B)}), False)
        self.assertIs(is_strategy(box, frame, 1, (), {**right, ((E,), PAIR): (A, B)}), True)
        self.assertIs(is_strategy(box, frame, 0, ((E,),), right), True)
        self.assertIs(is_strategy(box, frame, 0, ((A, E),), {**right, ((E,), PAIR): (A, E)}), False)
        for barred in (((),), ((A,),), ((B,),), ((A, B),)):
            self.assertIs(is_strategy(box, frame, 0, barred, right), False)
        wrong = [
            {}, {((), PAIR): (A,)}, {((), PAIR): (A,), ((A,), PAIR): (A, B)}, list(right.items()), None,
            {**right, ((), PAIR): (A, B)}, {**right, ((), PAIR): ()}, {**right, ((), PAIR): None}, {**right, 0: (A,)},
            {**right, (A, B): (A,)}, {**right, ((A, B), PAIR): (A, B, E)}, {**right, ((), (1, 0)): (A,)},
            {**right, ((A,), (0, 1), 0): (A, B)}, {**right, ((A,), PAIR): [A, B]}, {**right, ((A,), PAIR): (B, A)},
            {**right, ((A,), PAIR): (A, E)},
        ]
        for thing in wrong + untrue(right) + listed(right) + any_values():
            self.assertIs(is_strategy(box, frame, 0, (), thing), False, thing)
        self.assertIs(is_strategy(Box(2, 1, ()), ((0,),), 0, (), {}), True)
        self.assertIs(is_strategy(Box(2, 1, ()), ((0,),), 0, ((),), {}), False)

    def test_an_end_may_lead_out(self):
        box, frame = plain(2, 2), ((2,),)
        wanted = {((), PAIR): (A,), ((A,), PAIR): (A, B)}
        # From (A, B) the end of A leads to (B,), whose want is no key.
        self.assertIs(is_strategy(box, frame, 0, (), wanted), False)
        self.assertIs(is_strategy(box, frame, 0, (), {**wanted, ((B,), PAIR): (A, B)}), True)

    def test_crossed(self):
        box, frame = crossed(3, 2), greatest_loads(3, 2)
        told = strategy(box, frame, 1, ())
        self.assertIs(is_strategy(box, frame, 1, (), told), True)
        self.assertEqual(strategy(box, frame, 0, ()) is None, greatest_keeping(box, frame, 0, ()) is None)


if __name__ == "__main__":
    unittest.main()
