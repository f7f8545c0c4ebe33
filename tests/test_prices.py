"""Point 153: how much was moved, by what was heard."""

import random
import unittest

from allcalls.boxes import Box, full, plain
from allcalls.errors import BadBox, BadFrame, BadHeard, BadMoves, BadNumber
from allcalls.exchange import Exchange
from allcalls.hearsay import is_run
from allcalls.prices import are_prices, calm_run, fewest_moved, most_moved, prices
from tests.helpers import (any_values, anew, ascending_dict, every_standing, listed, refuse, too_many, untrue)
from tests.test_breakgames import break_game
from tests.test_frames import tree_box
from tests.test_hearsay import HEARD, every_run, some_hearings, steps_of
from tests.test_keepings import EVERY
from tests.test_worths import DEAR

A = ((0, 0), (1, 0))
B = ((0, 1), (1, 1))
C = ((0, 0), (1, 1))
D = ((0, 1), (1, 0))
WANT = ("want", (0, 1))
TWO = plain(2, 2)


def cost_of(item, way, other):
    return len(set(way) - set(other) - {item[1]})


def sums_of(steps, heard):
    """The list of the sums of costs of all runs."""
    return [sum(cost_of(item, *pair) for item, pair in zip(heard, zip(run, run[1:]))) for run in every_run(steps)]


def sums_told(steps, heard, pick):
    """The least, or greatest, sum of each standing behind the items, going ahead one by one."""
    rows = [{(): 0}]
    for step, item in zip(steps, heard):
        after = {}
        for way, total in rows[-1].items():
            for other in step[way] or []:
                after.setdefault(other, []).append(total + cost_of(item, way, other))
        rows.append({other: pick(found) for other, found in after.items()})
    return rows


def judged_prices(steps, heard, number, thing):
    if len(thing) != len(heard) + 1 or thing[0].get(()) != 0 or any(told < number for told in thing[-1].values()):
        return False
    return all(other in thing[at + 1] and thing[at + 1][other] <= told + cost_of(heard[at], way, other)
               for at in range(len(heard)) for way, told in thing[at].items() for other in steps[at][way] or [])


def dear_hearings(seed, many):
    """What was heard of exchanges in which something is moved."""
    rnd = random.Random(seed)
    games = [(box, frame, moves, break_game(box, frame, moves, 1)) for box, frame in [
        DEAR[0][:2], DEAR[0][:2], DEAR[1][:2], (full(2, 2), ((2,),)), (full(3, 2), ((1, 1, 0),))]
        for moves in (1, 2, 20)]
    for _ in range(many):
        box, frame, moves, game = rnd.choice(games)
        one = Exchange(box, frame, moves, 1)
        for _ in range(rnd.randint(2, 24)):
            asked = rnd.choice([other for other in game[one.position()] if game[one.position()][other]] or [None])
            if asked is None:
                break
            one.ask(asked)
            one.answer(rnd.choice(game[one.position()][asked])[1])
        yield rnd, box, frame, moves, one.heard(), one.moved()[0]


class Prices(unittest.TestCase):
    def test_small(self):
        # Two wires of full(2, 2): the second want finds the first one well placed, or has it moved.
        box, frame = full(2, 2), ((2,),)
        heard = [WANT, WANT, ("end", A)]
        self.assertEqual(fewest_moved(box, frame, 0, heard), 0)
        self.assertEqual(most_moved(box, frame, 0, heard), 0)
        self.assertEqual(most_moved(box, frame, 1, heard), 1)
        self.assertEqual(calm_run(box, frame, 0, heard)[2:], [(A, B), (B,)])
        # The broken wire is not counted, the other one is.
        heard = [WANT, WANT, ("break", A), ("end", C)]
        self.assertEqual(fewest_moved(box, frame, 0, heard), 0)
        self.assertEqual(most_moved(box, frame, 0, heard), 0)
        self.assertEqual(most_moved(box, frame, 1, heard), 2)
        self.assertEqual(most_moved(box, frame, 20, heard), 2)
        self.assertEqual(most_moved(box, frame, 1, heard[:2]), 1)
        heard = [("want", (0, 1)), ("end", A), ("want", (0, 1)), ("break", A), ("end", D)]
        self.assertEqual(fewest_moved(box, ((1,),), 1, heard), 0)
        self.assertEqual(most_moved(box, ((1,),), 1, heard), 1)
        for moves in (0, 20):
            self.assertEqual(fewest_moved(TWO, ((2,),), moves, []), 0)
            self.assertEqual(most_moved(TWO, ((2,),), moves, []), 0)
            self.assertEqual(calm_run(TWO, ((2,),), moves, []), [()])
            self.assertEqual(prices(TWO, ((2,),), moves, [], 0), [{(): 0}])
            self.assertIsNone(prices(TWO, ((2,),), moves, [], 1))
        self.assertIs(are_prices(TWO, ((2,),), 0, [], 1, [{(): 0}]), False)
        # No run at all: prices for any number.
        heard = [("end", A)]
        for function in (fewest_moved, most_moved, calm_run):
            self.assertIsNone(function(TWO, ((2,),), 20, heard))
        self.assertEqual(prices(TWO, ((2,),), 20, heard, 999999999), [{(): 0}, {}])

    def test_some_hearings(self):
        seen = {}
        every = [told for told in some_hearings(153, 130)]
        every += [told[:-1] for told in dear_hearings(154, 160)]
        for rnd, box, frame, moves, heard in every:
            told = (box, frame, moves, heard)
            steps = steps_of(*told)
            low, high = sums_told(steps, heard, min), sums_told(steps, heard, max)
            least = min(low[-1].values(), default=None)
            most = max(high[-1].values(), default=None)
            self.assertEqual(fewest_moved(*told), least)
            self.assertEqual(most_moved(*told), most)
            if len(heard) < 4:
                sums = sums_of(steps, heard)
                self.assertEqual((min(sums, default=None), max(sums, default=None)), (least, most))
            run = calm_run(*told)
            self.assertEqual(run is None, least is None)
            if run is not None:
                self.assertIs(is_run(*told, run), True)
                self.assertEqual(sum(cost_of(heard[k], run[k], run[k + 1]) for k in range(len(heard))), least)
            seen[least] = seen.get(least, 0) + 1
            seen["wide"] = seen.get("wide", 0) + (most != least)
            self.papers(rnd, told, steps, least)
        for kind in (None, 0, "wide"):
            self.assertGreater(seen[kind], 15, kind)
        self.assertGreater(sum(seen.get(least, 0) for least in range(1, 12)), 15)

    def papers(self, rnd, told, steps, least):
        """HEART: a run with a sum below the number, or prices for it, never both."""
        heard = told[3]
        ways = sorted(steps[0]) if steps else [()]
        for number in sorted({0, 1, 2, 10 ** 9 - 1, (least or 0) + 1, least or 0}):
            found = prices(*told, number)
            self.assertEqual(found is None, least is not None and least < number)
            if found is None:
                continue
            self.assertTrue(judged_prices(steps, heard, number, found))
            self.assertIs(are_prices(*told, number, found), True)
            for row in found:
                ascending_dict(self, row)
            for _ in range(3):
                thing = [dict(row) for row in found]
                row = rnd.choice(thing)
                if row and rnd.random() < 0.7:
                    way = rnd.choice(list(row))
                    row[way] = max(0, row[way] + rnd.choice([-1, 1, 1]))
                    if rnd.random() < 0.3:
                        del row[way]
                else:
                    row[rnd.choice(ways)] = rnd.randint(0, 2)
                thing = [dict(rnd.sample(list(row.items()), len(row))) for row in thing]
                self.assertIs(are_prices(*told, number, thing), judged_prices(steps, heard, number, thing))

    def test_calm_runs(self):
        """What costs as much together, but does not lead there, is no part of a run."""
        every = [(full(2, 2), ((2,),), 1, [WANT, WANT, ("end", D), ("break", A), ("end", D)]),
                 (full(2, 2), ((2,),), 20, [WANT, WANT, ("end", C), ("break", C), ("break", A), ("end", B)]),
                 (full(3, 2), ((0, 2, 2),), 1, [("want", (0, 2)), ("want", (1, 2)), ("end", ((1, 1), (2, 0))),
                                                ("break", ((0, 1), (2, 0))), ("want", (1, 2))])]
        for told in every:
            steps, run = steps_of(*told), calm_run(*told)
            self.assertTrue(all(run[k + 1] in steps[k][run[k]] for k in range(len(steps))))
            self.assertEqual(sum(cost_of(item, *pair) for item, pair in zip(told[3], zip(run, run[1:]))),
                             min(sums_told(steps, told[3], min)[-1].values()))

    def test_exchanges(self):
        """What was really moved lies between the least and the greatest sum."""
        between = 0
        for _, box, frame, moves, heard, moved in dear_hearings(155, 150):
            least, most = fewest_moved(box, frame, moves, heard), most_moved(box, frame, moves, heard)
            self.assertLessEqual(least, moved)
            self.assertLessEqual(moved, most)
            between += least < moved < most
        self.assertGreater(between, 3)


class Judged(unittest.TestCase):
    def test_are_prices(self):
        told = (TWO, ((2,),), 0, [WANT, ("break", A)], 0)
        right = [{(): 0}, {(A,): 0, (B,): 0}, {(B,): 0}]
        for thing in (right, tuple(right), [{(): 0, (A,): 7}, {(A,): 0, (B,): 0, (A, B): 1}, {(B,): 0, (): 5}],
                      [{(): 0}, {(B,): 0, (A,): 0}, {(B,): 0, (A, B): 0}]):
            self.assertIs(are_prices(*told, thing), True, thing)
        # When A breaks nothing with two wires is left, so (A, B) leads nowhere; but (A,) leads to it.
        self.assertIs(are_prices(*told, [{(): 0, (A,): 0}, {(A,): 0, (B,): 0, (A, B): 1}, {(B,): 0}]), False)
        self.assertIs(are_prices(*told, [{(): 0, (A,): 7}, {(A,): 0, (B,): 0}, {(B,): 0}]), False)
        wrong = [right[:-1], right[1:], right + [{}], [{}] + right[1:], [{(): 1}] + right[1:], [{(A,): 0}] + right[1:],
                 [{(): 0}, {(A,): 0}, {(B,): 0}], [{(): 0}, {(A,): 0, (B,): 1}, {(B,): 0}], [{(): 0}, {(A,): 0, (B,): 0}, {}],
                 [{(): 0}, {(A,): 0, (B,): 0}, {(B,): 1}], [{(): 0}, {(A,): -1, (B,): 0}, {(B,): 0}], None, {}, (), right[0],
                 [{(): 0}, {(A,): 0, (B,): 0, (C,): 0}, {(B,): 0}], [{(): 0}, {(A,): 0, (B,): 0}, [((B,), 0)]],
                 [{(): 0}, {(A,): 0, (B,): 0}, None], [{(): 0}, {(A,): 0, (B,): "0"}, {(B,): 0}],
                 [{(): 0}, {(A,): 0, (B,): 0, 0: 0}, {(B,): 0}]]
        for thing in wrong + untrue(right) + any_values():
            self.assertIs(are_prices(*told, thing), False, thing)
        self.assertIs(are_prices(*told[:-1], 1, right), False)

    def test_returned_anew(self):
        anew(self, prices, TWO, ((2,),), 0, HEARD, 0)
        anew(self, calm_run, TWO, ((2,),), 0, HEARD)


class Refused(unittest.TestCase):
    def every_function(self):
        """All functions of the point, and what stands behind what was heard, right and wrong."""
        return [(fewest_moved, (), None), (most_moved, (), None), (calm_run, (), None), (prices, (0,), (None,)),
                (are_prices, (0, None), (-1, None))]

    def test_refusals(self):
        more = {1: [((1, 1, 1),), [(2,)], ((1,), (2,))] + untrue(((1,),)), 2: [21, "0"], 4: ["1", (0,)]}
        errors = [BadBox, BadFrame, BadMoves, None]
        for function in (fewest_moved, most_moved, calm_run):
            refuse(self, function, [TWO, ((2,),), 20, HEARD], errors, more)
        for number in (None, True, False, -1, "0", [0], (0,), {}):
            for function, rest in ((prices, ()), (are_prices, (None,))):
                with self.assertRaises(BadNumber):
                    function(TWO, ((2,),), 0, HEARD, number, *rest)
        self.assertIsNone(prices(TWO, ((2,),), 0, HEARD, 999999999))
        for function, right, _ in self.every_function():
            for place, error, wrong in ((0, BadBox, None), (1, BadFrame, ((0, 0),)), (2, BadMoves, True)):
                args = [TWO, ((2,),), 0, None]
                args[place] = wrong
                with self.assertRaises(error):
                    function(*args, *right)

    def test_bad_heard(self):
        for function, right, wrong in self.every_function():
            for rest in (right, wrong) if wrong else (right,):
                for heard, at in (([None], 0), (HEARD + [("end", C)], 4), (None, None), ([WANT] * 61, None), ({}, None),
                                  ([("break", A), ("break", A)], 1), ([("want", (0, True))], 0), (HEARD + listed(WANT), 4)):
                    with self.assertRaises(BadHeard) as told:
                        function(TWO, ((2,),), 0, heard, *rest)
                    self.assertEqual(told.exception.at, at)
            function(TWO, ((2,),), 0, tuple(HEARD) * 15, *right)

    def test_too_many(self):
        for function, right, wrong in self.every_function():
            function(tree_box(5000), EVERY, 0, [], *right)
            too_many(self, 5000, function, tree_box(5001), EVERY, 0, [], *right)
            if wrong is not None:
                with self.assertRaises(BadNumber):
                    function(tree_box(5001), EVERY, 0, [], *wrong)
        self.assertEqual(len(every_standing(Box(2, 1, (A,)), ((1,),))), 2)


if __name__ == "__main__":
    unittest.main()
