"""Point 150: from where on one can answer for ever, and from where not."""

import unittest

from allcalls.boxes import Box, crossed, full, plain
from allcalls.breakgames import break_keeping, is_break_doom, positions
from allcalls.errors import BadBox, BadFrame, BadMoves, BadNumber
from allcalls.refuges import are_perils, is_refuge, perils, safe_positions
from tests.helpers import (any_values, anew, ascending_dict, greatest_of, listed, pairs_of, ranks_of, refuse, too_many,
                           untrue)
from tests.test_breakgames import A, B, C, D, EMPTY, JUST, START, WANT, break_game, every_position, some_games
from tests.test_frames import tree_box
from tests.test_keepings import EVERY, RING

T = ("want", (0, 3))


def judged_refuge(game, thing):
    return (list(thing) == sorted(set(thing)) and set(thing) <= set(game)
            and all(set(found) & set(thing) for place in thing for found in game[place].values()))


def judged_perils(game, thing):
    return all(place in game and asked in game[place] and rank >= 0
               and all(other in thing and thing[other][0] < rank for other in game[place][asked])
               for place, (rank, asked) in thing.items())


class Refuges(unittest.TestCase):
    def test_small(self):
        box, frame = plain(2, 2), ((1,),)
        self.assertEqual(safe_positions(box, frame, 0, 1), positions(box, frame, 1))
        self.assertEqual(perils(box, frame, 0, 1), {})
        # With two breaks nothing is safe but what has had them all and needs no switch; that is none here.
        self.assertEqual(safe_positions(box, frame, 0, 2), [])
        self.assertEqual(perils(box, frame, 0, 2), {
            ((), ()): (2, ("break", A)), ((), (A,)): (1, ("break", A)), ((), (B,)): (1, ("break", A)),
            ((A,), ()): (1, ("break", B)), ((A,), (B,)): (0, ("break", B)), ((A, B), ()): (0, WANT),
            ((B,), ()): (1, ("break", A)), ((B,), (A,)): (0, ("break", A))})
        # In the ring, wires on unlike tracks opposite each other are lost.
        safe = safe_positions(plain(4, 2), RING, 0, 0)
        self.assertIn(((), ()), safe)
        lost = perils(plain(4, 2), RING, 0, 0)
        place = ((), (((0, 0), (1, 0)), ((2, 1), (3, 1))))
        self.assertEqual(lost[place], (0, T))
        self.assertEqual(perils(plain(4, 2), RING, 1, 0), {})

    def test_some_positions(self):
        seen = [0, 0]
        for rnd, box, frame, moves, number in some_games(150, 110):
            told = (box, frame, moves, number)
            game = break_game(*told)
            safe, lost = safe_positions(*told), perils(*told)
            self.assertEqual(safe, sorted(greatest_of(game)))
            self.assertEqual(lost, ranks_of(game, ()))
            ascending_dict(self, lost)
            # HEART.
            self.assertEqual(sorted(safe + list(lost)), sorted(game))
            self.assertIs(is_refuge(*told, tuple(safe)), True)
            self.assertIs(are_perils(*told, lost), True)
            self.assertEqual(START in safe, break_keeping(*told) is not None)
            self.assertEqual(tuple(safe) if START in safe else None, break_keeping(*told))
            if START in lost:
                self.assertIs(is_break_doom(*told, lost), True)
            seen[0] += bool(safe)
            seen[1] += bool(lost)
            self.spoiled(rnd, told, game, safe, lost)
        self.assertGreater(min(seen), 20)

    def spoiled(self, rnd, told, game, safe, lost):
        for _ in range(4):
            thing = tuple(place for place in safe if rnd.random() < 0.9)
            self.assertIs(is_refuge(*told, thing), judged_refuge(game, thing))
            thing = tuple(sorted(thing + tuple(rnd.sample(sorted(game), 1))))
            self.assertIs(is_refuge(*told, thing), judged_refuge(game, thing))
        for place in rnd.sample(sorted(lost), min(4, len(lost))):
            less = {key: node for key, node in lost.items() if key != place}
            other = {**lost, place: (max(0, lost[place][0] + rnd.choice([-1, 1])), lost[place][1])}
            asked = {**lost, place: (lost[place][0], rnd.choice(list(game[place])))}
            one = {place: lost[place]}
            for thing in (less, other, asked, one, dict(reversed(list(lost.items())))):
                self.assertIs(are_perils(*told, thing), judged_perils(game, thing))
                # No key of any perils is in any refuge.
                if judged_perils(game, thing):
                    self.assertFalse(set(thing) & set(safe))

    def test_facts(self):
        done = [0, 0]
        every = [(full(2, 2), ((1,),)), (full(2, 2), ((2,),)), (plain(2, 3), ((1,),)), (plain(2, 3), ((2,),)),
                 (full(2, 3), ((2,),)), (crossed(3, 2), ((0, 0, 1), (1, 0, 0))), (full(3, 2), ((1, 0, 1),)),
                 (full(3, 2), ((1, 1, 0),)), (plain(4, 2), RING)]
        for box, frame in every:
            for number in (0, 1, 2):
                for moves in (0, 1, 2):
                    safe = set(safe_positions(box, frame, moves, number))
                    self.assertLessEqual(safe, set(safe_positions(box, frame, moves + 1, number)))
                    self.assertLessEqual(safe, set(safe_positions(box, frame, 20, number)))
                    if number > 0:
                        less = set(safe_positions(box, frame, moves, number - 1))
                        stays = {place for place in safe if len(place[0]) < number}
                        self.assertLessEqual(stays, less)
                        done[bool(less - stays)] += bool(stays)
        self.assertGreater(min(done), 2)

    def test_last_break(self):
        # Both wires of full(2, 2) have to be laid anew behind one more break, which two moves would do, one does not.
        box, frame = full(2, 2), ((2,),)
        self.assertNotIn(((), (A, B)), safe_positions(box, frame, 0, 1))
        self.assertIn(((C,), (A, B)), safe_positions(box, frame, 0, 1))
        self.assertEqual(perils(box, frame, 0, 1)[((), (A, B))], (0, ("break", A)))

    def test_zeros(self):
        for box in (EMPTY, plain(3, 1)):
            frame = ((0,) * len(pairs_of(box.sides)),)
            for number in (0, 1, 6):
                every = every_position(box, frame, number)
                self.assertEqual(safe_positions(box, frame, 0, number), every)
                self.assertEqual(perils(box, frame, 0, number), {})
        self.assertEqual(safe_positions(EMPTY, ((1,),), 20, 6), [])
        self.assertEqual(perils(EMPTY, ((1,),), 20, 6), {START: (0, WANT)})


class Judged(unittest.TestCase):
    def test_is_refuge(self):
        box, frame = plain(2, 2), ((1,),)
        right = (((A,), ()), ((A,), (B,)))
        for thing in ((), right, tuple(positions(box, frame, 1)), right + (((B,), ()), ((B,), (A,)))):
            self.assertIs(is_refuge(box, frame, 0, 1, thing), True, thing)
        wrong = [right[:1], right[1:], list(right), right[::-1], right + right[-1:], right + (None,), [], {}, (START,),
                 right + (((B,), (B,)),), right + (((C,), ()),), right + (((A, B), ()),), [right], START, dict(right)]
        for thing in wrong + untrue(right) + listed(right) + [thing for thing in any_values() if thing != ()]:
            self.assertIs(is_refuge(box, frame, 0, 1, thing), False, thing)
        self.assertIs(is_refuge(box, frame, 0, 0, right), False)
        self.assertIs(is_refuge(box, frame, 0, 2, right), False)

    def test_are_perils(self):
        box, frame = plain(2, 2), ((1,),)
        right = {((A,), ()): (1, ("break", B)), ((A, B), ()): (0, WANT)}
        self.assertIs(are_perils(box, frame, 0, 2, right), True)
        self.assertIs(are_perils(box, frame, 0, 2, {}), True)
        far = {place: (rank + 10 ** 6, asked) for place, (rank, asked) in right.items()}
        self.assertIs(are_perils(box, frame, 20, 2, far), True)
        # More than the least rank is allowed, and another asking.
        self.assertIs(are_perils(box, frame, 0, 2, {**right, START: (2, ("break", A))}), True)
        self.assertIs(are_perils(box, frame, 0, 2, {**right, ((A,), (B,)): (5, ("end", B))}), True)
        low = {place: (rank - 1, asked) for place, (rank, asked) in right.items()}
        wrong = [low, list(right.items()), [], (), {**right, 0: (0, WANT)}, {**right, ((A,), ()): (1, ("break", A))},
                 {**right, ((A,), ()): (0, ("break", B))}, {**right, ((A, B), ()): (0, ("break", A))},
                 {**right, ((A, B), ()): (0,)}, {**right, ((A, B), ()): (0, WANT, 0)}, {**right, ((C,), ()): (9, WANT)},
                 {**right, ((A,), (A,)): (0, WANT)}, {((A,), ()): (1, ("break", B))}, {**right, START: (1, ("break", A))},
                 {**right, ((A,), ()): ("1", ("break", B))}, {**right, ((D,), ()): (9, WANT)}]
        things = [thing for thing in any_values() if thing != {}]
        for thing in wrong + untrue(right) + listed(right) + things:
            self.assertIs(are_perils(box, frame, 0, 2, thing), False, thing)
        self.assertIs(are_perils(box, frame, 0, 1, right), False)

    def test_wide_games(self):
        # The judges raise no TooMany.
        box, frame = full(2, 6), ((6,),)
        self.assertIs(is_refuge(box, frame, 0, 6, ()), True)
        self.assertIs(is_refuge(box, frame, 0, 6, (START,)), False)
        self.assertIs(are_perils(box, frame, 0, 6, {START: (0, WANT)}), False)
        self.assertIs(are_perils(Box(2, 6, ()), frame, 20, 6, {START: (0, WANT)}), True)

    def test_returned_anew(self):
        anew(self, safe_positions, plain(2, 2), ((1,),), 0, 1)
        anew(self, perils, plain(2, 2), ((1,),), 0, 2)


class Refused(unittest.TestCase):
    def test_refusals(self):
        box, frame = plain(2, 2), ((2,),)
        more = {1: [((1, 1, 1),), [(2,)]] + untrue(((1,),)), 2: [21, "0"], 3: [7, "1"]}
        errors = [BadBox, BadFrame, BadMoves, BadNumber]
        for function in (safe_positions, perils):
            refuse(self, function, [box, frame, 20, 1], errors, more)
        for function in (is_refuge, are_perils):
            refuse(self, function, [box, frame, 0, 6, None], errors + [None], more)

    def test_too_many(self):
        for (many, number), (box, frame) in JUST.items():
            for function in (safe_positions, perils):
                if many > 5000:
                    too_many(self, 5000, function, box, frame, 0, number)
                    with self.assertRaises(BadMoves):
                        function(box, frame, None, number)
                    with self.assertRaises(BadNumber):
                        function(box, frame, 0, None)
                else:
                    function(box, frame, 0, number)
        for function in (safe_positions, perils):
            too_many(self, 5000, function, tree_box(5001), EVERY, 0, 0)
            too_many(self, 5000, function, full(3, 6), ((0, 0, 0),), 0, 2)


if __name__ == "__main__":
    unittest.main()
