"""Point 72: rows of calls that are known whole, dead rows and families."""

import random
import unittest

from allcalls.aheads import ahead_keeping
from allcalls.boxes import Box, plain
from allcalls.errors import BadBox, BadFrame, BadMoves, BadRow
from allcalls.foreseen import behind, dead_row, family, is_dead, is_family
from allcalls.keepings import greatest_keeping
from allcalls.loads import way_for
from tests.helpers import (any_values, anew, every_way, count_load, listed, pairs_of, refuse, some_box,
                           some_frame, too_many, untrue)
from tests.test_aheads import BOX_A, BOX_MORE, EMPTY, FRAME_A, FRAME_MORE, load_of_seating
from tests.test_seats import (FRAME_5000, FRAME_5001, SEATED_5000, SEATED_5001, every_call, every_row, every_seating,
                              is_answer, led)

A = ((0, 0), (1, 0))
B = ((0, 1), (1, 1))
WANT = ("want", (0, 1))
END = ("end", (0, 1), 0)

# Example B.
X = ((0, 0), (1, 0))
U = ((0, 0), (2, 0))
Y = ((0, 1), (1, 1))
V = ((1, 1), (2, 0))
BOX_B = Box(3, 2, (X, U, Y, V))
FRAME_B = ((1, 0, 1), (1, 1, 0))
DEAD_B = (("want", (0, 1)), ("want", (0, 2)), ("end", (0, 2), 0), ("want", (1, 2)))


def call_game(box, frame, moves):
    """The dict from all seatings to dicts from their calls to all answers."""
    every = every_seating(box, frame)
    groups = {}
    for seating in every:
        groups.setdefault(load_of_seating(seating), []).append(seating)
    game = {}
    for seating in every:
        load = load_of_seating(seating)
        game[seating] = {call: [other for other in groups.get(led(box.sides, load, call), [])
                                if is_answer(box.sides, moves, seating, call, other)]
                         for call in every_call(box.sides, frame, load)}
    return game


def plainly_behind(game, held, row):
    """What can stand behind the row if one of these seatings stood ahead."""
    for call in row:
        held = {other for seating in held for other in game[seating][call]}
    return tuple(sorted(held))


def every_list(game, empty):
    """All lists behind rows; an empty one among them if some row is dead."""
    found = {(empty,)}
    rest = [(empty,)]
    while rest:
        held = rest.pop()
        for call in game[held[0]] if held else []:
            other = plainly_behind(game, held, (call,))
            if other not in found:
                found.add(other)
                rest.append(other)
    return found


def is_plain_family(game, empty, thing):
    """Whether a tuple of tuples of seatings is a family, by the document's words."""
    if list(thing) != sorted(set(thing)) or (empty,) not in thing:
        return False
    for held in thing:
        if not held or list(held) != sorted(set(held)) or len({load_of_seating(seating) for seating in held}) > 1:
            return False
        for call in game[held[0]]:
            known = set(plainly_behind(game, held, (call,)))
            if not any(set(other) <= known for other in thing):
                return False
    return True


def some_games(seed, many, wide=25):
    rnd = random.Random(seed)
    done = 0
    while done < many:
        box = some_box(rnd, rnd.randint(2, 4), rnd.randint(1, 3), 7)
        frame = some_frame(rnd, box.sides, 2, 3)
        moves = rnd.choice([0, 0, 0, 0, 1, 2, 20])
        if 2 <= len(every_seating(box, frame)) <= wide:
            done += 1
            yield rnd, box, frame, moves


def no_seats(box):
    return ((),) * len(pairs_of(box.sides))


class Behind(unittest.TestCase):
    def test_small(self):
        box, frame = plain(2, 2), ((2,),)
        self.assertEqual(behind(box, frame, 0, ()), [((),)])
        self.assertEqual(behind(box, frame, 0, (WANT,)), [((A,),), ((B,),)])
        self.assertEqual(behind(box, frame, 0, (WANT, WANT)), [((A, B),), ((B, A),)])
        self.assertEqual(behind(box, frame, 0, (WANT, WANT, END)), [((A,),), ((B,),)])
        self.assertEqual(behind(plain(2, 1), frame, 20, (WANT, WANT)), [])
        self.assertEqual(behind(plain(2, 1), frame, 20, (WANT, WANT, ("end", (0, 1), 1))), [])
        self.assertEqual(behind(EMPTY, ((99,),), 20, (WANT,) * 99), [])
        anew(self, behind, box, frame, 0, (WANT, WANT))

    def test_some_rows(self):
        dead = 0
        for rnd, box, frame, moves in some_games(720, 60):
            game, empty = call_game(box, frame, moves), no_seats(box)
            rows = [row for many in range(4) for row in every_row(box.sides, frame, (0,) * len(empty), many)]
            for row in rnd.sample(rows, min(12, len(rows))):
                found = []
                if any(len(plainly_behind(game, {empty}, row[:many])) == 0 for many in range(len(row))):
                    # There is no seating any more whose calls these could be.
                    self.assertEqual(behind(box, frame, moves, row), [])
                else:
                    found = list(plainly_behind(game, {empty}, row))
                    self.assertEqual(behind(box, frame, moves, row), found)
                self.assertIs(is_dead(box, frame, moves, row), not found)
                dead += not found
        self.assertGreater(dead, 50)

    def test_is_dead(self):
        self.assertIs(is_dead(BOX_B, FRAME_B, 0, DEAD_B), True)
        self.assertIs(is_dead(BOX_B, FRAME_B, 0, DEAD_B + (("end", (1, 2), 0), ("want", (0, 2)))), True)
        self.assertIs(is_dead(BOX_B, FRAME_B, 1, DEAD_B), False)
        self.assertIs(is_dead(BOX_B, FRAME_B, 0, ()), False)
        wrong = [DEAD_B[:-1], list(DEAD_B), DEAD_B + (("want", (0, 2)),), DEAD_B + (None,), DEAD_B[1:], DEAD_B[::-1],
                 DEAD_B + (("end", (0, 2), 0),), DEAD_B[:2] + (("end", (0, 2), 1),) + DEAD_B[3:], DEAD_B[0]]
        for thing in wrong + untrue(DEAD_B) + listed(DEAD_B) + any_values():
            self.assertIs(is_dead(BOX_B, FRAME_B, 0, thing), False, thing)


class Dead(unittest.TestCase):
    def test_example(self):
        self.assertEqual(dead_row(BOX_B, FRAME_B, 0), DEAD_B)
        self.assertEqual(behind(BOX_B, FRAME_B, 0, DEAD_B[:2]), [((Y,), (U,), ())])
        self.assertEqual(behind(BOX_B, FRAME_B, 0, DEAD_B[:3]), [((Y,), (), ())])
        self.assertIsNone(family(BOX_B, FRAME_B, 0))
        self.assertIsNone(dead_row(BOX_B, FRAME_B, 1))
        self.assertIs(is_family(BOX_B, FRAME_B, 1, family(BOX_B, FRAME_B, 1)), True)
        self.assertIsNotNone(greatest_keeping(BOX_B, FRAME_B, 1, ()))

    def test_example_with_a_side_more(self):
        # No ahead is enough there, but no row is dead.
        for box, frame in ((BOX_A, FRAME_A), (BOX_MORE, FRAME_MORE)):
            self.assertIsNone(dead_row(box, frame, 0))
            self.assertIs(is_family(box, frame, 0, family(box, frame, 0)), True)

    def test_the_first_of_the_shortest(self):
        # The rows are written down one by one as long as they are few.
        told = {}
        for _, box, frame, moves in some_games(721, 90):
            game, empty = call_game(box, frame, moves), no_seats(box)
            row = dead_row(box, frame, moves)
            lengths = 3 if row is None else min(3, len(row))
            rows = [one for many in range(lengths + 1)
                    for one in every_row(box.sides, frame, (0,) * len(empty), many)]
            dead = []
            for one in rows:
                held = {empty}
                for call in one:
                    held = {other for seating in held for other in game[seating][call]}
                    if not held:
                        dead.append(one)
                        break
                if dead:
                    break
            if row is not None and len(row) <= 3:
                self.assertEqual(dead[0], row)
            else:
                self.assertEqual(dead, [])
            told[row and len(row)] = told.get(row and len(row), 0) + 1
        self.assertGreater(min(told[key] for key in (None, 1, 2)), 4)

    def test_dead_row_or_family(self):
        both = [0, 0]
        for rnd, box, frame, moves in some_games(722, 150):
            game, empty = call_game(box, frame, moves), no_seats(box)
            lists = every_list(game, empty)
            row, found = dead_row(box, frame, moves), family(box, frame, moves)
            both[row is None] += 1
            if row is None:
                self.assertNotIn((), lists)
                self.assertEqual(found, tuple(sorted(lists)))
                self.assertIs(is_family(box, frame, moves, found), True)
                self.assertTrue(is_plain_family(game, empty, found))
                self.lesser(rnd, box, frame, moves, game, found)
            else:
                self.assertIn((), lists)
                self.assertIsNone(found)
                self.assertIs(is_dead(box, frame, moves, row), True)
                self.assertEqual(plainly_behind(game, {empty}, row), ())
            self.facts(box, frame, moves, row)
        self.assertGreater(min(both), 25)

    def facts(self, box, frame, moves, row):
        for ahead in (0, 1):
            if ahead_keeping(box, frame, moves, ahead) is not None:
                self.assertIsNone(row)
        lacking = [sum(load) for load in frame if way_for(box, load) is None]
        if lacking:
            self.assertLessEqual(len(row), max(lacking))
        if row is None:
            ways = [count_load(box.sides, way) for way in every_way(box)]
            self.assertTrue(all(load in ways for load in frame))
            self.assertIsNone(dead_row(box, frame, min(20, moves + 1)))

    def lesser(self, rnd, box, frame, moves, game, found):
        empty = no_seats(box)
        things = []
        for _ in range(4):
            sets = {tuple(sorted(seating for seating in held if rnd.random() < 0.8)) for held in found} - {()}
            things.append(tuple(sorted(sets | {(empty,)})))
        drop = rnd.randrange(len(found))
        things += [found[:drop] + found[drop + 1:], tuple(sorted({held[:1] for held in found})),
                   tuple(sorted({held[:1] for held in found} | set(found)))]
        for thing in things:
            self.assertIs(is_family(box, frame, moves, thing), is_plain_family(game, empty, thing))


class Families(unittest.TestCase):
    def test_small(self):
        empty, one, two = ((),), ((A,),), ((B,),)
        self.assertEqual(family(plain(2, 1), ((1,),), 0), ((empty,), (one,)))
        self.assertEqual(family(plain(2, 2), ((1,),), 0), ((empty,), (one, two)))
        self.assertEqual(family(plain(3, 1), ((0, 0, 0),), 0), ((((), (), ()),),))
        self.assertIsNone(dead_row(plain(3, 1), ((0, 0, 0),), 0))
        self.assertEqual(dead_row(EMPTY, ((1,),), 20), (WANT,))
        self.assertEqual(dead_row(plain(2, 2), ((4,),), 20), (WANT, WANT, WANT))
        anew(self, family, plain(2, 2), ((2,),), 0)

    def test_is_family(self):
        box, frame = plain(2, 2), ((1,),)
        empty, one, two = ((),), ((A,),), ((B,),)
        for thing in (((empty,), (one, two)), ((empty,), (one,)), ((empty,), (two,)), ((empty,), (one,), (two,)),
                      ((empty,), (one,), (one, two)), ((empty,), (one,), (one, two), (two,))):
            self.assertIs(is_family(box, frame, 0, thing), True)
        right = ((empty,), (one, two))
        wrong = [((empty,),), ((one, two),), ((one, two), (empty,)), ((empty,), (two, one)), ((empty,), (one, one)),
                 ((empty,), (one,), (one,)), ((empty,), (empty, one), (one,)), ((), (empty,), (one,)),
                 ((empty,), (), (one,)), ((empty,), (one, None)), ((empty,), (one,), None), (), empty, (empty,), one,
                 ((empty,), one), ((empty,), (((((0, 0), (1, 1)),),),)), {(empty,): (one,)}, [right], (right,)]
        for thing in wrong + untrue(right) + listed(right) + any_values():
            self.assertIs(is_family(box, frame, 0, thing), False, thing)
        zeros = ((0,),)
        self.assertIs(is_family(box, zeros, 0, ((empty,),)), True)
        self.assertIs(is_family(box, zeros, 0, ((empty,), (one,))), False)
        self.assertIs(is_family(box, zeros, 0, ()), False)


# A box without dead rows. With so many switches between the sides 0 and 3, and a load that wants just these, it has one
# list more for each.
BASE = (
    ((0, 0), (1, 1)), ((0, 1), (1, 1)), ((0, 1), (1, 3)), ((0, 1), (2, 2)), ((0, 2), (1, 1)), ((0, 2), (1, 2)),
    ((0, 2), (2, 0)), ((0, 2), (2, 1)), ((0, 2), (2, 2)), ((0, 2), (2, 3)), ((0, 3), (1, 0)), ((0, 3), (1, 2)),
    ((0, 3), (2, 0)), ((0, 3), (2, 1)), ((0, 3), (2, 2)), ((1, 0), (2, 2)), ((1, 1), (2, 3)))

TOPS = ((0, 3, 0, 0, 0, 0), (3, 1, 0, 1, 0, 0))
# Likewise, but with a dead row.
BASE_DEAD = (
    ((0, 0), (2, 1)), ((0, 0), (2, 2)), ((0, 1), (1, 3)), ((0, 2), (1, 0)), ((0, 2), (1, 1)), ((0, 2), (2, 0)),
    ((0, 2), (2, 1)), ((0, 3), (1, 2)), ((0, 3), (2, 1)), ((0, 3), (2, 4)), ((0, 4), (1, 3)), ((0, 4), (2, 0)),
    ((1, 0), (2, 0)), ((1, 1), (2, 0)), ((1, 3), (2, 2)))
TOPS_DEAD = ((1, 0, 0, 2, 0, 0), (2, 2, 0, 1, 0, 0))


def widened(switches, tops, more):
    """The box and the frame with so many switches more."""
    wider = switches + tuple(((0, track), (3, track)) for track in range(more))
    return Box(4, 5, tuple(sorted(wider))), ((0, 0, more, 0, 0, 0),) + tops


def lists_ahead(game, empty):
    """The pair of how many lists rows have behind them, row by row up to the first dead one, and of that row."""
    seen = {(empty,)}
    ring = [((), (empty,))]
    while ring:
        longer = []
        for row, held in ring:
            for call in game[held[0]]:
                other = plainly_behind(game, held, (call,))
                if not other:
                    return len(seen), row + (call,)
                # Rows behind a list that is known have known lists behind them.
                if other not in seen:
                    seen.add(other)
                    longer.append((row + (call,), other))
        ring = longer
    return len(seen), None


class Refused(unittest.TestCase):
    def test_refusals(self):
        box, frame = plain(2, 2), ((2,),)
        wrong = {1: [((1, 1, 1),), [(2,)]] + untrue(((1,),)), 2: [21, "1"]}
        row = (WANT, END)
        bad = [(WANT, WANT, WANT), (END,), [WANT], WANT, (WANT, ("end", (0, 1), 1)), (None,), (("want", (1, 0)),),
               (("want", (0, 1), 0),), (("end", (0, 1)),), ((WANT,),)]
        wrong[3] = bad + untrue(row) + listed(row)
        refuse(self, behind, [box, frame, 1, row], [BadBox, BadFrame, BadMoves, BadRow], wrong)
        wrong[3] = []
        for function in (dead_row, family):
            refuse(self, function, [box, frame, 20], [BadBox, BadFrame, BadMoves], wrong)
        for function in (is_dead, is_family):
            refuse(self, function, [box, frame, 0, None], [BadBox, BadFrame, BadMoves, None], wrong)

    def test_too_many_seatings(self):
        every = [(behind, ((),)), (is_dead, (None,)), (dead_row, ()), (family, ()), (is_family, (None,))]
        for function, rest in every:
            too_many(self, 5000, function, SEATED_5001, FRAME_5001, 0, *rest)
            with self.assertRaises(BadMoves):
                function(SEATED_5001, FRAME_5001, -1, *rest)
        with self.assertRaises(BadRow):
            behind(SEATED_5001, FRAME_5001, 0, (END,))
        self.assertEqual(behind(SEATED_5000, FRAME_5000, 0, ()), [((), (), ())])
        self.assertIs(is_dead(SEATED_5000, FRAME_5000, 0, ()), False)
        self.assertIs(is_family(SEATED_5000, FRAME_5000, 0, ()), False)
        between = [switch for switch in SEATED_5000.switches if (switch[0][0], switch[1][0]) == (0, 1)]
        self.assertEqual(behind(SEATED_5000, FRAME_5000, 0, (WANT,)), [((switch,), (), ()) for switch in between])

    def test_too_many_lists(self):
        for more, many in ((3, 5000), (4, 5001)):
            box, frame = widened(BASE, TOPS, more)
            self.assertEqual(lists_ahead(call_game(box, frame, 0), no_seats(box)), (many, None))
            if many > 5000:
                for function in (dead_row, family):
                    too_many(self, 5000, function, box, frame, 0)
                    with self.assertRaises(BadMoves):
                        function(box, frame, None)
            else:
                self.assertIsNone(dead_row(box, frame, 0))
                found = family(box, frame, 0)
                self.assertEqual(len(found), many)
                self.assertIs(is_family(box, frame, 0, found), True)
            # Lists are not counted in the others.
            self.assertEqual(len(behind(box, frame, 0, (("want", (0, 3)),))), more)
            self.assertIs(is_dead(box, frame, 0, (("want", (0, 3)),)), False)
            self.assertIs(is_family(box, frame, 0, ()), False)

    def test_too_many_lists_ahead_of_a_dead_row(self):
        for more, many in ((2, 5000), (3, 5001)):
            box, frame = widened(BASE_DEAD, TOPS_DEAD, more)
            told, row = lists_ahead(call_game(box, frame, 0), no_seats(box))
            self.assertEqual(told, many)
            self.assertIs(is_dead(box, frame, 0, row), True)
            if many > 5000:
                for function in (dead_row, family):
                    too_many(self, 5000, function, box, frame, 0)
            else:
                self.assertEqual(dead_row(box, frame, 0), row)
                self.assertIsNone(family(box, frame, 0))


if __name__ == "__main__":
    unittest.main()
