"""Point 73: effects of rows, and the game in which endless ones are told."""

import random
import unittest

from allcalls.aheads import ahead_keeping, least_ahead
from allcalls.blocks import (block_doom, block_keeping, effect, endless_effects, enough_ahead, is_block_doom,
                             is_block_keeping)
from allcalls.boxes import Box, plain
from allcalls.errors import BadBox, BadFrame, BadLoad, BadMoves, BadRow
from allcalls.foreseen import dead_row
from allcalls.keepings import greatest_keeping
from allcalls.seats import call_rows
from tests.helpers import (any_values, anew, ascending_dict, every_load, greatest_of, inside, is_doomed, is_kept, listed,
                           pairs_of, refuse, some_box, some_frame, too_many, untrue)
from tests.test_aheads import (BOX_A, BOX_MORE, EMPTY, FRAME_A, FRAME_MORE, beginnings_of, load_of_seating, lost_of,
                               positions_counted)
from tests.test_foreseen import call_game, no_seats
from tests.test_seats import FRAME_5000, FRAME_5001, SEATED_5000, SEATED_5001, every_call, every_seating, led

A = ((0, 0), (1, 0))
B = ((0, 1), (1, 1))
WANT = ("want", (0, 1))
END = ("end", (0, 1), 0)


def empty_rows(game, frame):
    """The effects of the empty rows at all loads of the frame."""
    sides = {len(load) for load in frame}.pop()
    sides = {1: 2, 3: 3, 6: 4, 10: 5}[sides]
    loads = [load for load in every_load(sides, max(map(max, frame))) if inside(frame, load)]
    return [(load, load, tuple((one, one) for one in sorted(game) if load_of_seating(one) == load)) for load in loads]


def one_call_more(game, sides, frame, found):
    """The effects of the rows with this effect and one call more."""
    load, other, pairs = found
    return [(load, led(sides, other, call), tuple(sorted({(one, end) for one, two in pairs for end in game[two][call]})))
            for call in every_call(sides, frame, other)]


class Effects:
    """All effects of a box and a frame, and which rows have them, length by length."""

    def __init__(self, box, frame, moves, most=10 ** 6):
        self.game = call_game(box, frame, moves)
        self.arrows = {}
        self.begin = empty_rows(self.game, frame)
        rest = list(self.begin)
        while rest and len(self.arrows) <= most:
            found = rest.pop()
            if found not in self.arrows:
                self.arrows[found] = one_call_more(self.game, box.sides, frame, found)
                rest += self.arrows[found]

    def endless(self):
        """Those that rows of any length have, ascending, and the longest row with another one."""
        # A row with as many calls as there are effects goes in a circle.
        rows, endless, depth = set(self.begin), set(), 0
        every = []
        for _ in range(2 * len(self.arrows)):
            every.append(rows)
            rows = {other for found in rows for other in self.arrows[found]}
        for rows in every[len(self.arrows):]:
            endless |= rows
        for length, rows in enumerate(every):
            if rows - endless:
                depth = length
        return sorted(endless), depth

    def block_game(self):
        """The dict from all block positions to dicts from the numbers that may be told to the next positions."""
        endless = self.endless()[0]
        game = {}
        for number, (load, other, pairs) in enumerate(endless):
            nexts = [k for k, found in enumerate(endless) if found[0] == other]
            for seating in self.game:
                if load_of_seating(seating) == load:
                    game[(seating, number)] = {k: [(two, k) for one, two in pairs if one == seating] for k in nexts}
        return {place: game[place] for place in sorted(game)}


def some_games(seed, many, most=160):
    rnd = random.Random(seed)
    done = 0
    while done < many:
        box = some_box(rnd, rnd.randint(2, 3), rnd.randint(1, 3), 7)
        frame = some_frame(rnd, box.sides, 2, 2)
        moves = rnd.choice([0, 0, 0, 0, 1, 2, 20])
        if len(every_seating(box, frame)) <= 20:
            effects = Effects(box, frame, moves, most)
            if len(effects.arrows) <= most:
                done += 1
                yield rnd, box, frame, moves, effects


class Told(unittest.TestCase):
    def test_small(self):
        box, frame = plain(2, 1), ((1,),)
        empty, one = ((),), ((A,),)
        self.assertEqual(effect(box, frame, 0, (0,), ()), ((0,), (0,), ((empty, empty),)))
        self.assertEqual(effect(box, frame, 0, (0,), (WANT,)), ((0,), (1,), ((empty, one),)))
        self.assertEqual(effect(box, frame, 0, (1,), (END, WANT, END)), ((1,), (0,), ((one, empty),)))
        self.assertEqual(endless_effects(box, frame, 0), [
            ((0,), (0,), ((empty, empty),)), ((0,), (1,), ((empty, one),)), ((1,), (0,), ((one, empty),)),
            ((1,), (1,), ((one, one),))])
        self.assertEqual(block_keeping(box, frame, 0), ((empty, 0), (empty, 1), (one, 2), (one, 3)))
        self.assertIsNone(block_doom(box, frame, 0))
        self.assertEqual(enough_ahead(box, frame, 0), 1)
        anew(self, endless_effects, box, frame, 0)

    def test_loads_that_are_not_carried(self):
        frame = ((2,),)
        empty, one = ((),), ((A,),)
        self.assertEqual(effect(plain(2, 1), frame, 20, (2,), (END,)), ((2,), (1,), ()))
        self.assertEqual(effect(plain(2, 1), frame, 20, (1,), (WANT, END)), ((1,), (1,), ()))
        told = endless_effects(plain(2, 1), frame, 20)
        self.assertEqual(told, Effects(plain(2, 1), frame, 20).endless()[0])
        self.assertIn(((2,), (2,), ()), told)
        doom = block_doom(plain(2, 1), frame, 20)
        self.assertIsNone(block_keeping(plain(2, 1), frame, 20))
        self.assertIs(is_block_doom(plain(2, 1), frame, 20, doom), True)
        # Where an effect has no pair with the seating, all that may be told is lost at once.
        self.assertEqual(doom[(empty, told.index(((0,), (2,), ())))][0], 0)
        self.assertEqual({place[0] for place in doom}, {empty, one})
        self.assertEqual(endless_effects(EMPTY, ((1,),), 0), [
            ((0,), (0,), ()), ((0,), (1,), ()), ((1,), (0,), ()), ((1,), (1,), ())])
        self.assertEqual(block_doom(EMPTY, ((1,),), 0), {(empty, 0): (0, 0), (empty, 1): (0, 2)})

    def test_frame_of_zeros(self):
        for box in (plain(2, 2), EMPTY, plain(4, 1)):
            frame = ((0,) * len(pairs_of(box.sides)),)
            empty = no_seats(box)
            self.assertEqual(effect(box, frame, 0, frame[0], ()), (frame[0], frame[0], ((empty, empty),)))
            # There is one row, the empty one, so no effect is endless.
            self.assertEqual(endless_effects(box, frame, 0), [])
            self.assertEqual(block_keeping(box, frame, 0), ())
            self.assertIsNone(block_doom(box, frame, 0))
            self.assertIs(is_block_keeping(box, frame, 0, ()), True)
            self.assertIs(is_block_doom(box, frame, 0, {}), False)
            self.assertEqual(enough_ahead(box, frame, 0), 1)

    def test_some_effects(self):
        for rnd, box, frame, moves, effects in some_games(730, 40):
            for _ in range(6):
                load = rnd.choice(effects.begin)[0]
                rows = call_rows(box, frame, load, rnd.randint(0, 3))
                row = rnd.choice(rows) if rows else ()
                found = [one for one in effects.begin if one[0] == load][0]
                for call in row:
                    found = effects.arrows[found][every_call(box.sides, frame, found[1]).index(call)]
                self.assertEqual(effect(box, frame, moves, load, row), found)

    def test_some_endless_effects(self):
        for _, box, frame, moves, effects in some_games(731, 80):
            endless, depth = effects.endless()
            self.assertEqual(endless_effects(box, frame, moves), endless)
            enough = enough_ahead(box, frame, moves)
            if enough is not None:
                self.assertEqual(enough, 2 * (depth + 1) - 1)

    def test_rows_without_endless_effects(self):
        for longest, (box, frame, moves) in LONGEST.items():
            endless, depth = Effects(box, frame, moves).endless()
            self.assertEqual(depth, longest)
            self.assertEqual(endless_effects(box, frame, moves), endless)
            self.assertEqual(enough_ahead(box, frame, moves), 2 * (longest + 1) - 1)

    def test_example(self):
        call = ("want", (0, 1))
        told = effect(BOX_A, FRAME_A, 0, (3, 0, 0), (("end", (0, 1), 1),))
        self.assertEqual(told[:2], ((3, 0, 0), (2, 0, 0)))
        self.assertEqual(len(told[2]), 24)
        for one, two in told[2]:
            self.assertEqual(two, ((one[0][0], one[0][2]), (), ()))
        self.assertEqual(len(effect(BOX_A, FRAME_A, 0, (0, 0, 0), (call, call))[2]), 12)
        self.assertEqual(effect(BOX_A, FRAME_A, 0, (0, 0, 0), (call, call, ("want", (1, 2))))[2][0][0], ((), (), ()))


class Games(unittest.TestCase):
    def test_some_games(self):
        both = [0, 0]
        for rnd, box, frame, moves, effects in some_games(732, 140):
            game = effects.block_game()
            kept, nodes = greatest_of(game), lost_of(game)
            self.assertEqual(set(game) - kept, set(nodes))
            keeping, doom = block_keeping(box, frame, moves), block_doom(box, frame, moves)
            good = beginnings_of(game) <= kept
            both[good] += 1
            if good:
                self.assertIsNone(doom)
                self.assertEqual(keeping, tuple(sorted(kept)))
                self.assertIs(is_block_keeping(box, frame, moves, keeping), True)
                self.assertIs(is_block_doom(box, frame, moves, nodes), is_doomed(game, beginnings_of(game), nodes))
            else:
                self.assertIsNone(keeping)
                self.assertIsNone(enough_ahead(box, frame, moves))
                self.assertEqual(doom, nodes)
                ascending_dict(self, doom)
                self.assertIs(is_block_doom(box, frame, moves, doom), True)
            self.spoiled(rnd, box, frame, moves, game, kept, nodes)
        self.assertGreater(min(both), 20)

    def spoiled(self, rnd, box, frame, moves, game, kept, nodes):
        for _ in range(3):
            thing = tuple(sorted(place for place in kept if rnd.random() < 0.9))
            self.assertIs(is_block_keeping(box, frame, moves, thing), is_kept(game, beginnings_of(game), thing))
        for _ in range(3):
            if nodes:
                place = rnd.choice(list(nodes))
                less = {key: node for key, node in nodes.items() if key != place}
                other = {**nodes, place: (max(0, nodes[place][0] + rnd.choice([-1, 1])), nodes[place][1])}
                told = {**nodes, place: (nodes[place][0], rnd.choice(list(game[place])))}
                for thing in (less, other, told, dict(reversed(list(nodes.items())))):
                    self.assertIs(is_block_doom(box, frame, moves, thing), is_doomed(game, beginnings_of(game), thing))

    def test_degrees(self):
        told = {}
        for _, box, frame, moves, effects in some_games(733, 120):
            enough = enough_ahead(box, frame, moves)
            live = greatest_keeping(box, frame, moves, ()) is not None
            few = [ahead for ahead in range(3) if positions_counted(box, frame, ahead) <= 4000]
            kept = [ahead for ahead in few if ahead_keeping(box, frame, moves, ahead) is not None]
            if live:
                self.assertEqual(kept, few)
            if kept:
                self.assertIsNotNone(enough)
            if enough is not None:
                self.assertIsNone(dead_row(box, frame, moves))
                for ahead in range(enough, 7):
                    if positions_counted(box, frame, ahead) > 4000:
                        break
                    self.assertIsNotNone(ahead_keeping(box, frame, moves, ahead))
            name = (live, enough is not None, dead_row(box, frame, moves) is None)
            told[name] = told.get(name, 0) + 1
        self.assertGreater(told[(True, True, True)], 20)
        self.assertGreater(told[(False, False, False)], 20)

    def test_between_the_degrees(self):
        for what, (box, frame, moves) in BETWEEN.items():
            live, enough, foreseen = what
            self.assertEqual(greatest_keeping(box, frame, moves, ()) is not None, live)
            self.assertEqual(enough_ahead(box, frame, moves), enough)
            self.assertEqual(dead_row(box, frame, moves) is None, foreseen)


class Judged(unittest.TestCase):
    def test_is_block_keeping(self):
        box, frame = plain(2, 2), ((2,),)
        right = block_keeping(box, frame, 0)
        self.assertIs(is_block_keeping(box, frame, 0, right), True)
        many = len(endless_effects(box, frame, 0))
        wrong = [(), right[1:], list(right), right[::-1], right + right[-1:], right + (None,), [right], dict(right),
                 right + ((((B, A),), many),), right[:-1] + (((right[-1][0]), -1),), right[0]]
        for thing in wrong + untrue(right) + listed(right) + any_values():
            self.assertIs(is_block_keeping(box, frame, 0, thing), False, thing)

    def test_is_block_doom(self):
        box, frame = plain(2, 1), ((2,),)
        right = block_doom(box, frame, 1)
        self.assertIs(is_block_doom(box, frame, 1, right), True)
        self.assertIs(is_block_doom(box, frame, 1, dict(reversed(list(right.items())))), True)
        far = {place: (rank + 10 ** 6, number) for place, (rank, number) in right.items()}
        self.assertIs(is_block_doom(box, frame, 1, far), True)
        low = {place: (rank - 1, number) for place, (rank, number) in right.items()}
        flat = {place: (0, number) for place, (rank, number) in right.items()}
        great = {place: (rank, 10 ** 6) for place, (rank, number) in right.items()}
        less = {place: (rank, -1) for place, (rank, number) in right.items()}
        many = len(endless_effects(box, frame, 1))
        past = {place: (rank, many) for place, (rank, number) in right.items()}
        wrong = [{}, low, flat, great, less, past, {place: (rank, many + 1) for place, (rank, _) in right.items()}, list(right.items()), {**right, 0: (0, 1)}, {**right, (): (0, 1)}]
        for thing in wrong + untrue(right) + listed(right) + any_values():
            self.assertIs(is_block_doom(box, frame, 1, thing), False, thing)

    def test_a_doom_may_be_less(self):
        lesser = 0
        for _, box, frame, moves, effects in some_games(734, 60):
            game = effects.block_game()
            nodes = lost_of(game)
            for first in beginnings_of(game) & set(nodes):
                needed, rest = {}, [first]
                while rest:
                    place = rest.pop()
                    needed[place] = nodes[place]
                    rest += [other for other in game[place][nodes[place][1]] if other not in needed]
                lesser += len(needed) < len(nodes)
                self.assertIs(is_block_doom(box, frame, moves, needed), True)
        self.assertGreater(lesser, 20)


# Boxes, frames and moves: whether there is a keeping, how much told ahead is enough, whether no row is dead.
BETWEEN = {
    (False, None, True): (Box(3, 4, (((0, 1), (1, 0)), ((0, 2), (1, 1)), ((0, 2), (2, 1)), ((0, 3), (1, 3)),
                                     ((1, 1), (2, 2)))), ((1, 1, 1), (3, 0, 0)), 0),
    (False, None, False): (Box(3, 2, (((0, 0), (1, 0)), ((0, 0), (2, 0)), ((0, 1), (1, 1)), ((1, 1), (2, 0)))),
                           ((1, 0, 1), (1, 1, 0)), 0),
    (True, 1, True): (plain(2, 2), ((2,),), 0),
}

# Boxes, frames and moves in which the longest row without an endless effect has so many calls.
LONGEST = {
    0: (Box(3, 1, (((0, 0), (1, 0)), ((0, 0), (2, 0)), ((1, 0), (2, 0)))), ((0, 1, 0),), 1),
    1: (Box(2, 3, (((0, 0), (1, 1)), ((0, 1), (1, 2)), ((0, 2), (1, 0)))), ((2,),), 2),
    2: (Box(2, 3, (((0, 0), (1, 1)), ((0, 0), (1, 2)), ((0, 1), (1, 1)), ((0, 1), (1, 2)), ((0, 2), (1, 0)))),
        ((3,),), 2),
    3: (Box(3, 3, (((0, 0), (2, 0)), ((0, 1), (1, 0)), ((0, 1), (1, 1)), ((0, 2), (1, 0)), ((1, 1), (2, 1)),
                   ((1, 2), (2, 0)))), ((1, 1, 1),), 1),
    5: (Box(2, 3, (((0, 0), (1, 2)), ((0, 1), (1, 1)), ((0, 2), (1, 0)))), ((3,),), 1),
    6: (Box(3, 3, (((0, 0), (1, 2)), ((0, 0), (2, 0)), ((0, 0), (2, 2)), ((0, 2), (2, 1)), ((1, 1), (2, 2)),
                   ((1, 2), (2, 0)))), ((0, 2, 1),), 1),
}

# Boxes, frames and moves with just so many effects.
JUST = {
    2000: [
        (Box(3, 2, (((0, 0), (1, 1)), ((0, 0), (2, 0)), ((0, 1), (1, 0)), ((1, 0), (2, 0)), ((1, 1), (2, 0)))),
         ((1, 0, 3), (2, 3, 2), (3, 1, 2)), 1),
        (Box(4, 3, (((0, 0), (2, 1)), ((0, 1), (1, 0)), ((0, 2), (3, 1)), ((1, 1), (2, 0)), ((2, 1), (3, 0)))),
         ((1, 1, 0, 1, 1, 1), (1, 1, 1, 1, 0, 0)), 1),
    ],
    2001: [
        (Box(3, 2, (((0, 0), (1, 1)), ((0, 1), (1, 0)), ((0, 1), (2, 1)), ((1, 0), (2, 0)), ((1, 0), (2, 1)))),
         ((1, 2, 3), (3, 2, 2)), 0),
        (Box(4, 2, (((0, 0), (2, 1)), ((0, 1), (2, 1)), ((0, 1), (3, 1)), ((1, 1), (2, 1)), ((1, 1), (3, 1)),
                    ((2, 1), (3, 0)))), ((1, 1, 0, 0, 0, 2), (2, 2, 1, 1, 0, 0)), 0),
    ],
}


class Refused(unittest.TestCase):
    def test_refusals(self):
        box, frame = plain(2, 2), ((2,),)
        wrong = {1: [((1, 1, 1),), [(2,)]] + untrue(((1,),)), 2: [21, "1"]}
        row = (END, WANT)
        bad = [(WANT, WANT), (("end", (0, 1), 1),), [WANT], WANT, (END, END), (None,), (("want", (1, 0)),), ((WANT,),)]
        more = {**wrong, 3: [(3,), (1, 1), [1], (-1,), 1] + untrue((1,)), 4: bad + untrue(row) + listed(row)}
        refuse(self, effect, [box, frame, 1, (1,), row], [BadBox, BadFrame, BadMoves, BadLoad, BadRow], more)
        for function in (endless_effects, block_keeping, block_doom, enough_ahead):
            refuse(self, function, [box, frame, 20], [BadBox, BadFrame, BadMoves], wrong)
        for function in (is_block_keeping, is_block_doom):
            refuse(self, function, [box, frame, 0, None], [BadBox, BadFrame, BadMoves, None], wrong)

    def test_too_many_seatings(self):
        every = [(endless_effects, ()), (is_block_keeping, (None,)), (block_keeping, ()), (is_block_doom, (None,)),
                 (block_doom, ()), (enough_ahead, ()), (effect, ((0, 0, 0), ()))]
        for function, rest in every:
            too_many(self, 5000, function, SEATED_5001, FRAME_5001, 0, *rest)
            with self.assertRaises(BadMoves):
                function(SEATED_5001, FRAME_5001, -1, *rest)
            if rest != ((0, 0, 0), ()):
                too_many(self, 2000, function, SEATED_5000, FRAME_5000, 0, *rest)
        with self.assertRaises(BadRow):
            effect(SEATED_5001, FRAME_5001, 0, (0, 0, 0), (END,))
        empty = ((), (), ())
        told = effect(SEATED_5000, FRAME_5000, 0, (0, 0, 0), ())
        self.assertEqual(told, ((0, 0, 0), (0, 0, 0), ((empty, empty),)))

    def test_too_many_effects(self):
        every = [(endless_effects, ()), (is_block_keeping, (None,)), (block_keeping, ()), (is_block_doom, (None,)),
                 (block_doom, ()), (enough_ahead, ())]
        for many, games in JUST.items():
            for box, frame, moves in games:
                self.assertEqual(len(Effects(box, frame, moves).arrows), many)
                for function, rest in every:
                    if many > 2000:
                        too_many(self, 2000, function, box, frame, moves, *rest)
                    else:
                        function(box, frame, moves, *rest)
        # In these the seatings of one load alone have too many effects.
        for box, frame in ((BOX_A, FRAME_A), (BOX_MORE, FRAME_MORE)):
            for function, rest in every:
                too_many(self, 2000, function, box, frame, 0, *rest)
                with self.assertRaises(BadMoves):
                    function(box, frame, None, *rest)
        self.assertEqual(least_ahead(BOX_A, FRAME_A, 0, 1), 1)

    def test_too_many_loads(self):
        # Between each two loads some row leads, so 45 loads are too many for any box.
        for number in (44, 43):
            box, frame = EMPTY, ((number,),)
            many = (number + 1) ** 2 + 1
            self.assertEqual(len(Effects(box, frame, 0).arrows), many)
            if many > 2000:
                too_many(self, 2000, endless_effects, box, frame, 0)
            else:
                self.assertEqual(len(endless_effects(box, frame, 0)), many - 1)
        too_many(self, 2000, enough_ahead, EMPTY, ((99,),), 0)
        too_many(self, 2000, block_doom, Box(5, 1, ()), ((99,) * 10,), 20)


if __name__ == "__main__":
    unittest.main()
