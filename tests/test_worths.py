"""Points 130 and 131: what is moved on the long run."""

import random
import unittest
from fractions import Fraction
from math import gcd

from allcalls.boxes import Box, full, plain
from allcalls.dooms import least_moves
from allcalls.errors import BadAsking, BadBox, BadFrame, BadPair, BadStanding, NotWhole
from allcalls.frames import answers, greatest_loads, standings
from allcalls.keepings import greatest_keeping
from allcalls.wholes import missing
from allcalls.worths import cheap, high_paper, is_high, is_low, low_paper, worth
from tests.helpers import (any_values, anew, ascending_dict, every_standing, game_of, listed, refuse, some_box,
                           some_frame, too_many, untrue)
from tests.test_frames import tree_box
from tests.test_keepings import RING
from tests.test_loads import SUMS_1000, SUMS_1001

A = ((0, 0), (1, 0))
B = ((0, 1), (1, 1))
C = ((0, 0), (1, 1))
D = ((0, 1), (1, 0))
WANT = ("want", (0, 1))
EMPTY = Box(2, 1, ())

# Boxes and frames whose worth is not 0, and it. The first is example B of the document: a wire between 0 and 1 stands in
# the way of 0 2 or of 1 2, one of which is wanted after each end of the other one.
DEAR = [
    (Box(3, 2, (((0, 0), (1, 0)), ((0, 0), (2, 0)), ((0, 1), (1, 1)), ((1, 1), (2, 0)))),
     ((1, 0, 1), (1, 1, 0)), (1, 2)),
    (Box(3, 2, (((0, 0), (1, 1)), ((0, 0), (2, 0)), ((0, 1), (1, 0)), ((0, 1), (2, 1)), ((1, 0), (2, 0)))),
     ((0, 1, 1), (0, 2, 0)), (1, 4)),
    (Box(3, 3, (((0, 0), (1, 0)), ((0, 0), (1, 1)), ((0, 0), (2, 2)), ((0, 1), (2, 1)), ((0, 1), (2, 2)),
                ((0, 2), (1, 1)), ((0, 2), (2, 0)), ((0, 2), (2, 1)), ((0, 2), (2, 2)), ((1, 0), (2, 0)),
                ((1, 1), (2, 0)), ((1, 1), (2, 1)), ((1, 2), (2, 0)))), ((1, 0, 2), (2, 0, 0)), (1, 6)),
    (Box(3, 3, (((0, 0), (1, 0)), ((0, 0), (2, 2)), ((0, 1), (1, 1)), ((0, 1), (2, 0)), ((0, 2), (1, 2)),
                ((0, 2), (2, 0)), ((0, 2), (2, 1)), ((1, 0), (2, 0)), ((1, 0), (2, 2)), ((1, 2), (2, 0)),
                ((1, 2), (2, 1)), ((1, 2), (2, 2)))), ((0, 1, 2), (0, 2, 1)), (1, 8)),
    (Box(3, 2, (((0, 0), (1, 1)), ((0, 0), (2, 0)), ((0, 1), (1, 0)), ((0, 1), (2, 0)), ((0, 1), (2, 1)),
                ((1, 0), (2, 1)), ((1, 1), (2, 0)), ((1, 1), (2, 1)))), ((0, 0, 2), (1, 1, 1), (2, 0, 0)), (1, 4)),
    (Box(3, 3, (((0, 0), (1, 0)), ((0, 1), (2, 0)), ((0, 1), (2, 1)), ((0, 2), (1, 2)), ((0, 2), (2, 1)),
                ((1, 0), (2, 2)), ((1, 1), (2, 0)), ((1, 1), (2, 1)))), ((1, 0, 2), (1, 1, 1), (1, 2, 0)), (3, 8)),
]

# Boxes and frames with just so many standings.
EDGES = {
    200: (Box(3, 4, (((0, 0), (1, 1)), ((0, 0), (1, 3)), ((0, 0), (2, 0)), ((0, 0), (2, 1)), ((0, 1), (1, 2)),
                     ((0, 2), (1, 3)), ((0, 2), (2, 0)), ((0, 2), (2, 2)), ((0, 2), (2, 3)), ((0, 3), (1, 0)),
                     ((0, 3), (2, 2)), ((1, 0), (2, 3)), ((1, 2), (2, 2)))), ((2, 2, 1),)),
    201: (Box(3, 4, (((0, 0), (1, 3)), ((0, 0), (2, 0)), ((0, 0), (2, 2)), ((0, 1), (2, 3)), ((0, 2), (2, 0)),
                     ((0, 2), (2, 1)), ((0, 3), (1, 3)), ((0, 3), (2, 0)), ((0, 3), (2, 2)), ((1, 0), (2, 0)),
                     ((1, 0), (2, 1)), ((1, 1), (2, 0)), ((1, 3), (2, 1)), ((1, 3), (2, 3)))),
          ((0, 2, 2), (1, 2, 1))),
}


def costs_of(game):
    """The dict from standings to dicts from askings to pairs of an answer and its cost; the game has any moves."""
    return {way: {asking: [(other, 0 if asking[0] == "end" else len(set(way) - set(other))) for other in found]
                  for asking, found in asked.items()} for way, asked in game.items()}


def some_games(seed, many, wide=40):
    """Boxes that are whole for a frame with some wire, and their games with costs."""
    rnd = random.Random(seed)
    done = 0
    while done < many:
        box = some_box(rnd, rnd.choice([2, 3, 3, 3, 4]), rnd.randint(1, 3), 9)
        frame = some_frame(rnd, box.sides, 2, 3)
        if missing(box, frame) is None and len(every_standing(box, frame)) <= wide:
            done += 1
            yield rnd, box, frame, costs_of(game_of(box, frame, 99))


def dear_games(seed, many):
    """Such games in which something is to be moved; plain boxes of three sides, and a switch for two mates."""
    rnd = random.Random(seed)
    done = 0
    while done < many:
        box = some_box(rnd, 3, 2, 6)
        frame = some_frame(rnd, 3, 1, 3)
        if missing(box, frame) is None and least_moves(box, frame) != 0:
            done += 1
            yield rnd, box, frame, costs_of(game_of(box, frame, 99))


def chosen_games():
    """Games with worths of several kinds."""
    found = [(box, frame, costs_of(game_of(box, frame, 99))) for box, frame, _ in DEAR[:3]]
    found += [(box, frame, costs) for _, box, frame, costs in dear_games(1302, 8)]
    return found + [(box, frame, costs) for _, box, frame, costs in some_games(1312, 6, 12)]


def mean_worth(costs):
    """The worth by many rounds of play, by the mean of their costs."""
    many = len(costs)
    sums = {way: 0 for way in costs}
    # Sums stay near the rounds' worth by less than what all standings may cost together; fractions that have no
    # greater lower numbers than standings are further apart than what is left of that in so many rounds.
    rounds = 8 * many * many
    for _ in range(rounds):
        sums = {way: max([min([cost + sums[other] for other, cost in found]) for found in costs[way].values()])
                for way in costs}
    return Fraction(sums[()], rounds).limit_denominator(many)


def least_low(costs, pair):
    """The least numbers of low papers for a pair, by rounds from 0 on; None if they rise without end."""
    up, down = pair
    numbers = {way: 0 for way in costs}
    most = len(costs) * down * 20
    while True:
        after = {way: max([0] + [min(down * cost + numbers[other] for other, cost in found) - up
                                 for found in costs[way].values()]) for way in costs}
        if after == numbers:
            return {way: numbers[way] for way in sorted(numbers)}
        if max(after.values()) > most:
            return None
        numbers = after


def judged_low(costs, pair, thing):
    up, down = pair
    return () in thing and all(way in costs and number >= 0 and all(
        any(other in thing and down * cost + thing[other] <= number + up for other, cost in found)
        for found in costs[way].values()) for way, number in thing.items())


def judged_high(costs, pair, thing):
    up, down = pair
    return () in thing and all(way in costs and number >= 0 and any(
        all(other in thing and down * cost + thing[other] >= number + up for other, cost in found)
        for found in costs[way].values()) for way, number in thing.items())


def pairs_near(pair):
    """Pairs at, a little below and a little above a worth, some of them not in least terms."""
    up, down = pair
    found = [(up, down), (2 * up, 2 * down), (7 * up, 7 * down), (100 * up + 1, 100 * down), (up + 1, down),
             (0, 1), (0, 9999), (9999, 1), (9999, 9999), (1, 2), (up, down + 1), (99 * up + 1, 99 * down)]
    if up > 0:
        found += [(100 * up - 1, 100 * down), (up - 1, down), (99 * up - 1, 99 * down)]
    return [(one, two) for one, two in found if one <= 9999 and 1 <= two <= 9999]


class Worths(unittest.TestCase):
    def test_small(self):
        self.assertEqual(worth(plain(2, 2), ((2,),)), (0, 1))
        self.assertEqual(worth(plain(4, 2), RING), (0, 1))
        self.assertEqual(worth(full(2, 2), ((2,),)), (0, 1))
        for box, frame, told in DEAR:
            self.assertEqual(worth(box, frame), told)
            self.assertLessEqual(2 * told[0], told[1] * least_moves(box, frame))
        self.assertEqual(cheap(DEAR[0][0], DEAR[0][1], (((0, 0), (1, 0)),), ("want", (0, 2))), 1)
        self.assertEqual(cheap(DEAR[0][0], DEAR[0][1], (((0, 0), (1, 0)),), ("want", (1, 2))), 0)
        self.assertEqual(cheap(plain(2, 2), ((2,),), (), WANT), 0)
        self.assertEqual(cheap(plain(2, 2), ((2,),), (A,), ("end", A)), 0)

    def test_cheap(self):
        positive = 0
        for _, box, frame, costs in list(some_games(1300, 25)) + list(dear_games(1301, 25)):
            for way, asked in costs.items():
                for asking, found in asked.items():
                    least = min(cost for _, cost in found)
                    self.assertEqual(cheap(box, frame, way, asking), least)
                    positive += least > 0
                    if asking[0] == "want":
                        self.assertTrue(answers(box, frame, least, way, asking))
                        if least:
                            self.assertFalse(answers(box, frame, least - 1, way, asking))
        self.assertGreater(positive, 20)

    def test_worth(self):
        for box, frame, costs in chosen_games():
            found = worth(box, frame)
            self.assertEqual(gcd(*found), 1)
            self.assertLessEqual(found[1], len(costs))
            self.assertEqual(Fraction(*found), mean_worth(costs))

    def test_facts(self):
        for _, box, frame, costs in list(some_games(1303, 60)) + list(dear_games(1304, 30)):
            up, down = worth(box, frame)
            self.assertEqual((up, down) == (0, 1), greatest_keeping(box, frame, 0, ()) is not None)
            self.assertLessEqual(2 * up, down * least_moves(box, frame))

    def test_papers(self):
        for _, box, frame, costs in list(some_games(1305, 20)) + list(dear_games(1306, 30)):
            told = worth(box, frame)
            for pair in pairs_near(told):
                low, high = low_paper(box, frame, pair), high_paper(box, frame, pair)
                # HEART.
                self.assertEqual(low is not None, pair[0] * told[1] >= told[0] * pair[1], (pair, told))
                self.assertEqual(high is not None, pair[0] * told[1] <= told[0] * pair[1], (pair, told))
                if low is not None:
                    self.assertTrue(judged_low(costs, pair, low))
                    self.assertIs(is_low(box, frame, pair, low), True)
                    self.assertEqual(set(low), set(costs))
                    ascending_dict(self, low)
                    if pair[1] < 30 or low == {way: 0 for way in costs}:
                        self.assertEqual(low, least_low(costs, pair))
                elif pair[1] < 5:
                    self.assertIsNone(least_low(costs, pair))
                if high is not None:
                    self.assertTrue(judged_high(costs, pair, high))
                    self.assertIs(is_high(box, frame, pair, high), True)
                    ascending_dict(self, high)

    def test_papers_of_wide_parts(self):
        # With great parts the rounds that rise by little are many.
        for _, box, frame, costs in dear_games(1307, 6):
            told = worth(box, frame)
            scale = 9999 // told[1] - 1
            for pair in ((told[0] * scale + 1, told[1] * scale), (told[0] * scale, told[1] * scale)):
                self.assertEqual(low_paper(box, frame, pair), least_low(costs, pair))

    def test_least_numbers(self):
        # With more than the worth, other answers may be better than those that cost least on the long run.
        for box, frame, told in DEAR:
            costs = costs_of(game_of(box, frame, 99))
            for pair in pairs_near(told)[:4] + [(told[0] + 1, told[1]), (3, 8), (2, 6), (2, 5), (1, 3), (1, 1)]:
                low = low_paper(box, frame, pair)
                if pair[0] * told[1] < told[0] * pair[1]:
                    self.assertIsNone(low)
                else:
                    self.assertEqual(low, least_low(costs, pair))

    def test_spoiled_papers(self):
        seen = [0, 0, 0, 0]
        for rnd, box, frame, costs in list(some_games(1308, 12)) + list(dear_games(1309, 20)):
            pair = worth(box, frame)
            for k, (paper, judge, judged) in enumerate(((low_paper, is_low, judged_low),
                                                        (high_paper, is_high, judged_high))):
                right = paper(box, frame, pair)
                for _ in range(12):
                    thing = dict(right)
                    way = rnd.choice(list(thing))
                    if rnd.random() < 0.3:
                        del thing[way]
                    else:
                        thing[way] = max(0, thing[way] + rnd.choice([-1, 1, 3]))
                    thing = dict(rnd.sample(list(thing.items()), len(thing)))
                    told = judged(costs, pair, thing)
                    self.assertIs(judge(box, frame, pair, thing), told)
                    seen[2 * k + told] += 1
        self.assertGreater(min(seen), 10)

    def test_long_runs(self):
        for rnd, box, frame, costs in list(dear_games(1310, 12)):
            pair = worth(box, frame)
            low, high = low_paper(box, frame, pair), high_paper(box, frame, pair)
            for _ in range(3):
                self.answered(rnd, costs, pair, low)
                self.asked(rnd, costs, pair, high)

    def answered(self, rnd, costs, pair, low):
        """Whatever is asked, the costs stay with the worth, but for the number of the empty standing."""
        way, total = (), 0
        for many in range(1, 150):
            found = rnd.choice(list(costs[way].values()))
            number = low[way]
            way, cost = min(found, key=lambda one: pair[1] * one[1] + low[one[0]])
            self.assertLessEqual(pair[1] * cost + low[way], number + pair[0])
            total += cost
            self.assertLessEqual(pair[1] * total, many * pair[0] + low[()])

    def asked(self, rnd, costs, pair, high):
        """Whatever is answered, no less is moved, but for the greatest of the numbers."""
        way, total = (), 0
        for many in range(1, 150):
            right = [found for found in costs[way].values() if all(
                other in high and pair[1] * cost + high[other] >= high[way] + pair[0] for other, cost in found)]
            way, cost = rnd.choice(right[0])
            total += cost
            self.assertGreaterEqual(pair[1] * total, many * pair[0] + high[()] - max(high.values()))


class Judged(unittest.TestCase):
    def test_is_low(self):
        box, frame = plain(2, 2), ((1,),)
        right = {(): 0, (A,): 1, (B,): 0}
        self.assertIs(is_low(box, frame, (1, 1), right), True)
        self.assertIs(is_low(box, frame, (0, 9999), {(): 0, (A,): 0}), True)
        self.assertIs(is_low(box, frame, (0, 1), {(): 10 ** 6, (A,): 10 ** 6}), True)
        self.assertIs(is_low(box, frame, (0, 1), right), True)
        self.assertIs(is_low(box, frame, (0, 1), {(B,): 3, (): 3}), True)
        wrong = [{}, {(): 0}, {(A,): 0, (B,): 0}, list(right.items()), {**right, (C,): 0}, {**right, 0: 0},
                 {**right, (): -1}, {**right, (): "0"}, {**right, (A, B): 0}, {**right, (): None}]
        for thing in wrong + untrue(right) + any_values():
            self.assertIs(is_low(box, frame, (1, 1), thing), False, thing)
        # An end comes back to a number that must not be greater.
        self.assertIs(is_low(box, frame, (0, 1), {(): 1, (A,): 0}), False)

    def test_is_high(self):
        box, frame, pair = DEAR[0]
        costs = costs_of(game_of(box, frame, 99))
        right = high_paper(box, frame, pair)
        self.assertTrue(judged_high(costs, pair, right))
        self.assertIs(is_high(box, frame, pair, dict(reversed(list(right.items())))), True)
        far = {way: number + 10 ** 6 for way, number in right.items()}
        self.assertIs(is_high(box, frame, pair, far), True)
        self.assertIs(is_high(box, frame, (2, 3), right), False)
        other = ((0, 0), (1, 1))
        wrong = [{}, {(): 0}, list(right.items()), {**right, (other,): 0}, {**right, 0: 0}, {**right, (): -1},
                 {way: number for way, number in right.items() if way != ()}]
        for thing in wrong + untrue(right) + any_values():
            self.assertIs(is_high(box, frame, pair, thing), False, thing)
        self.assertIs(is_high(plain(2, 2), ((1,),), (0, 7), {(): 0, (A,): 0, (B,): 0}), True)
        self.assertIs(is_high(plain(2, 2), ((1,),), (0, 7), {(): 0, (A,): 0}), False)

    def test_returned_anew(self):
        box, frame, pair = DEAR[0]
        anew(self, low_paper, box, frame, pair)
        anew(self, high_paper, box, frame, pair)


class Refused(unittest.TestCase):
    def test_refusals(self):
        box, frame = plain(2, 2), ((2,),)
        frames = [((1, 1, 1),), [(2,)], ((0,),), ((1,), (2,))] + untrue(((1,),))
        places = [(C,), (B, A), [A], (A, A), A] + untrue((A,)) + listed((A,))
        asked = [("end", B), ("end", C), ("want", (1, 0)), ["want", (0, 1)], ("break", A), ("want", (0, 1), 0)]
        asked += untrue(("end", A)) + listed(("end", A)) + untrue(WANT)
        pairs = [(0, 0), (-1, 1), (10000, 1), (0, 10000), (1,), (1, 2, 3), [0, 1], (0, "1"), (True, 1), (1, True),
                 (False, 1), None]
        refuse(self, worth, [box, frame], [BadBox, BadFrame], {1: frames})
        refuse(self, cheap, [box, frame, (A,), WANT], [BadBox, BadFrame, BadStanding, BadAsking],
               {1: frames, 2: places, 3: asked})
        for function in (low_paper, high_paper):
            refuse(self, function, [box, frame, (0, 1)], [BadBox, BadFrame, BadPair], {1: frames, 2: pairs})
        for function in (is_low, is_high):
            refuse(self, function, [box, frame, (0, 1), None], [BadBox, BadFrame, BadPair, None],
                   {1: frames, 2: pairs})
        for pair in ((0, 1), (9999, 9999), (0, 9999), (9999, 1)):
            self.assertIsNotNone(low_paper(box, frame, pair))

    def every_function(self):
        """All functions of the point, with what they are given behind box and frame, right and wrong."""
        return [(worth, (), None), (cheap, ((), WANT), (None, WANT)), (cheap, ((), WANT), ((), None)),
                (low_paper, ((0, 1),), ((1, 0),)), (high_paper, ((0, 1),), ((1, 0),)),
                (is_low, ((0, 1), None), (7, None)), (is_high, ((0, 1), None), (7, None))]

    def test_not_whole(self):
        for function, right, wrong in self.every_function():
            for box, frame in ((plain(2, 1), ((2,),)), (EMPTY, ((1,),)), (plain(3, 2), greatest_loads(3, 2)),
                               (plain(2, 2), ((99,),))):
                for given in (right, wrong):
                    if given is not None:
                        with self.assertRaises(NotWhole):
                            function(box, frame, *given)
            # BadFrame comes ahead of it, also for the load of no wires alone.
            for frame in (((0,),), ((0, 0),), None):
                with self.assertRaises(BadFrame):
                    function(EMPTY, frame, *right)

    def test_too_many_ways(self):
        # The ways of a piece are too many ahead of everything but BadBox and BadFrame.
        whole = tree_box(20001)
        for function, right, wrong in self.every_function():
            for given in (right, wrong):
                if given is not None:
                    too_many(self, 20000, function, whole, ((0, 0, 0, 0, 0, 0, 0, 0, 0, 1),), *given)
            with self.assertRaises(BadFrame):
                function(whole, ((0,) * 10,), *right)
            with self.assertRaises(NotWhole):
                function(tree_box(20000), ((99,) * 10,), *right)

    def test_too_many_sums(self):
        frame = ((99,) * 10,)
        for function, right, wrong in self.every_function():
            with self.assertRaises(NotWhole):
                function(SUMS_1000, frame, *right)
            for given in (right, wrong):
                if given is not None:
                    too_many(self, 1000, function, SUMS_1001, frame, *given)

    def test_too_many_standings(self):
        just, over = EDGES[200], EDGES[201]
        self.assertEqual(len(standings(*just)), 200)
        self.assertEqual(len(standings(*over)), 201)
        self.assertEqual(worth(*just)[1] > 0, True)
        for function, right, wrong in self.every_function():
            function(*just, *right)
            too_many(self, 200, function, *over, *right)
            if wrong is not None:
                with self.assertRaises((BadStanding, BadAsking, BadPair)):
                    function(*over, *wrong)
        # No other function of the frame is so narrow.
        self.assertIsNotNone(greatest_keeping(*over, 20, ()))


if __name__ == "__main__":
    unittest.main()
