"""Point 140: budgets that are enough for ever, and ruins."""

import random
import unittest

from allcalls.boxes import Box, plain
from allcalls.budgets import budgets, is_budgets, is_ruin, least_budget, ruin
from allcalls.errors import BadBox, BadBudget, BadFrame, BadGain, BadPrice, NotWhole
from allcalls.frames import greatest_loads
from allcalls.worths import low_paper, worth
from tests.helpers import any_values, anew, ascending_dict, game_of, listed, refuse, too_many, untrue
from tests.test_frames import tree_box
from tests.test_loads import SUMS_1000, SUMS_1001
from tests.test_worths import DEAR, EDGES, costs_of, dear_games, some_games

A = ((0, 0), (1, 0))
B = ((0, 1), (1, 1))
C = ((0, 0), (1, 1))
WANT = ("want", (0, 1))
EMPTY = Box(2, 1, ())
X = ((0, 0), (1, 0))
Y = ((0, 1), (1, 1))
U = ((0, 0), (2, 0))
V = ((1, 1), (2, 0))


def plain_budgets(costs, gain, price):
    """The least budgets, by rounds: what is never enough for so many askings, is not enough; {} if it has no end."""
    numbers = {way: 0 for way in costs}
    most = len(costs) * price * 12
    while True:
        after = {way: max([0] + [min([price * cost - gain + numbers[other] for other, cost in found])
                                 for found in costs[way].values()]) for way in costs}
        if after == numbers:
            return {way: numbers[way] for way in sorted(numbers)}
        if max(after.values()) > most:
            return {}
        numbers = after


def judged_budgets(costs, gain, price, thing):
    return all(way in costs and number >= 0 and all(
        any(other in thing and thing[other] <= number + gain - price * cost for other, cost in found)
        for found in costs[way].values()) for way, number in thing.items())


def is_pressed(thing, left, rank, other):
    return left < 0 or any(way == other and number >= left and less < rank for (way, number), less in thing.items())


def judged_ruin(costs, gain, price, budget, thing):
    return ((), budget) in thing and all(way in costs and number >= 0 and rank >= 1 and any(
        all(is_pressed(thing, number + gain - price * cost, rank, other) for other, cost in found)
        for found in costs[way].values()) for (way, number), rank in thing.items())


def every_game(seed):
    found = [(random.Random(seed), box, frame, costs_of(game_of(box, frame, 99))) for box, frame, _ in DEAR[:3]]
    return found + list(dear_games(seed, 14)) + list(some_games(seed + 1, 8, 20))


def some_prices(rnd, told):
    """Gains and prices, of all kinds, and just at the worth, below and above it."""
    up, down = told
    found = [(0, 1), (99, 1), (0, 99), (99, 99), (rnd.randint(0, 99), rnd.randint(1, 99)), (up, down),
             (rnd.randint(0, 9), rnd.randint(1, 9)), (8 * up, 8 * down), (8 * up + 1, 8 * down),
             (12 * up, 12 * down), (5 * up, 5 * down), (12 * up + 1, 12 * down)]
    return found + ([(8 * up - 1, 8 * down)] if up else [])


class Budgets(unittest.TestCase):
    def test_small(self):
        # Nothing is to be moved: the budget 0 is enough, and so is nothing gained.
        self.assertEqual(least_budget(plain(2, 2), ((2,),), 0, 1), 0)
        self.assertEqual(budgets(plain(2, 2), ((1,),), 0, 99), {(): 0, (A,): 0, (B,): 0})
        self.assertIsNone(ruin(plain(2, 2), ((2,),), 0, 99, 0))
        box, frame, _ = DEAR[0]
        # One wire is moved at every other asking. With the gain 1 and the price 2 it is just paid for, and what comes
        # ahead is enough for the first one; where a wire stands in the way and nothing is left, 1 more is needed.
        self.assertEqual(least_budget(box, frame, 1, 2), 0)
        found = budgets(box, frame, 1, 2)
        self.assertEqual(found, {(): 0, (X,): 1, (X, V): 0, (U,): 0, (U, Y): 0, (Y,): 1, (V,): 0})
        self.assertIsNone(least_budget(box, frame, 49, 99))
        self.assertEqual(budgets(box, frame, 49, 99), {})
        self.assertIsNotNone(least_budget(box, frame, 50, 99))
        self.assertIsNotNone(ruin(box, frame, 49, 99, 99))
        self.assertIsNone(ruin(box, frame, 1, 2, 0))
        box, frame, _ = DEAR[2]
        self.assertEqual(least_budget(box, frame, 12, 72), 12)
        self.assertEqual(least_budget(box, frame, 13, 72), 7)
        self.assertIsNotNone(ruin(box, frame, 12, 72, 11))
        self.assertIsNone(ruin(box, frame, 12, 72, 12))

    def test_some_budgets(self):
        kinds = [0, 0, 0]
        for rnd, box, frame, costs in every_game(1400):
            told = worth(box, frame)
            for gain, price in some_prices(rnd, told):
                found, least = budgets(box, frame, gain, price), least_budget(box, frame, gain, price)
                self.assertEqual(found, plain_budgets(costs, gain, price))
                ascending_dict(self, found)
                self.assertEqual(least, found.get(()))
                self.assertEqual(least is None, told[0] * price > gain * told[1])
                self.assertIn(len(found), (0, len(costs)))
                self.assertIs(is_budgets(box, frame, gain, price, found), True)
                self.assertEqual(found or None, low_paper(box, frame, (gain, price)))
                kinds[0 if least is None else 1 if least == 0 else 2] += 1
        self.assertGreaterEqual(min(kinds), 6)

    def test_ruins(self):
        kinds = [0, 0]
        for rnd, box, frame, costs in every_game(1402):
            for gain, price in some_prices(rnd, worth(box, frame)):
                least = least_budget(box, frame, gain, price)
                for budget in sorted({0, 99, rnd.randint(0, 99), rnd.randint(0, 9)}):
                    found = ruin(box, frame, gain, price, budget)
                    # HEART.
                    self.assertEqual(found is None, least is not None and least <= budget)
                    kinds[found is not None] += 1
                    if found is not None:
                        ascending_dict(self, found)
                        self.assertIs(is_ruin(box, frame, gain, price, budget, found), True)
                        if len(found) < 120:
                            self.assertTrue(judged_ruin(costs, gain, price, budget, found))
                if least:
                    self.assertIsNotNone(ruin(box, frame, gain, price, min(99, least - 1)))
        self.assertGreater(min(kinds), 50)

    def test_spoiled_papers(self):
        seen = [0] * 4
        for rnd, box, frame, costs in every_game(1404):
            for gain, price in some_prices(rnd, worth(box, frame)):
                self.spoil_budgets(rnd, (box, frame, gain, price), costs, seen)
                self.spoil_ruins(rnd, (box, frame, gain, price), costs, seen)
        self.assertGreater(min(seen), 40)

    def spoil_budgets(self, rnd, told, costs, seen):
        right = budgets(*told)
        for _ in range(4 if right else 0):
            thing = {way: number for way, number in right.items() if rnd.random() < 0.9}
            way = rnd.choice(list(thing) or [()])
            thing[way] = max(0, thing.get(way, 0) + rnd.choice([-1, 0, 1, 5]))
            judged = judged_budgets(costs, *told[2:], thing)
            self.assertIs(is_budgets(*told, dict(rnd.sample(list(thing.items()), len(thing)))), judged)
            seen[judged] += 1

    def spoil_ruins(self, rnd, told, costs, seen):
        budget = rnd.choice([0, 0, 1, 3])
        right = ruin(*told, budget)
        for _ in range(4 if right and len(right) < 60 else 0):
            thing = {key: rank for key, rank in right.items() if rnd.random() < 0.97}
            key = rnd.choice(list(thing) or [((), budget)])
            rank = max(1, thing.pop(key, 1) + rnd.choice([-1, 0, 1]))
            thing[(key[0], max(0, key[1] + rnd.choice([-1, 0, 0, 1])))] = rank
            judged = judged_ruin(costs, *told[2:], budget, thing)
            self.assertIs(is_ruin(*told, budget, thing), judged)
            seen[2 + judged] += 1

    def test_ranks_in_any_order(self):
        """A key with more left may have a lesser rank than one with less left, and stand for it."""
        for box, frame, _ in DEAR[:2]:
            costs = costs_of(game_of(box, frame, 99))
            for budget in (5, 9):
                # Those of a ruin for 1 more stand for those with less left, behind which others rank higher.
                thing = {key: 10 ** 6 + rank for key, rank in ruin(box, frame, 1, 5, budget).items()}
                thing.update({key: 10 ** 7 + rank for key, rank in ruin(box, frame, 1, 5, budget + 3).items()})
                thing.update(ruin(box, frame, 1, 5, budget + 1))
                thing[((), budget)] = thing[((), budget + 1)]
                self.assertTrue(judged_ruin(costs, 1, 5, budget, thing))
                self.assertIs(is_ruin(box, frame, 1, 5, budget, thing), True)
                thing[((), budget)] = 1
                self.assertFalse(judged_ruin(costs, 1, 5, budget, thing))
                self.assertIs(is_ruin(box, frame, 1, 5, budget, thing), False)

    def test_long_runs(self):
        for rnd, box, frame, costs in every_game(1406):
            for gain, price in some_prices(rnd, worth(box, frame)):
                found = budgets(box, frame, gain, price)
                if found:
                    self.answered(rnd, costs, gain, price, found)
                budget = rnd.choice([0, 1, 7, 40])
                told = ruin(box, frame, gain, price, budget)
                if told and len(told) < 200:
                    self.asked(rnd, costs, gain, price, told, budget)

    def answered(self, rnd, costs, gain, price, found):
        """Whatever is asked, the budget is never below 0."""
        way, left = (), found[()]
        for _ in range(80):
            behind = rnd.choice(list(costs[way].values()))
            way, cost = min(behind, key=lambda one: price * one[1] + found[one[0]])
            left += gain - price * cost
            self.assertGreaterEqual(left, found[way])

    def asked(self, rnd, costs, gain, price, told, budget):
        """Whatever is answered, the ranks fall until the budget is below 0."""
        way, left, rank = (), budget, told[((), budget)]
        number = budget
        for _ in range(rank + 1):
            pressing = [found for found in costs[way].values() if all(
                is_pressed(told, number + gain - price * cost, rank, other) for other, cost in found)]
            other, cost = rnd.choice(pressing[0])
            left, number = left + gain - price * cost, number + gain - price * cost
            self.assertLessEqual(left, number)
            if left < 0:
                return
            rank, number = min((less, key[1]) for key, less in told.items()
                               if key[0] == other and key[1] >= number and less < rank)
            way = other
        self.fail("the ranks fell to the end")


class Judged(unittest.TestCase):
    def test_is_budgets(self):
        box, frame = plain(2, 2), ((1,),)
        right = {(): 0, (A,): 1, (B,): 0}
        self.assertIs(is_budgets(box, frame, 1, 1, right), True)
        self.assertIs(is_budgets(box, frame, 0, 99, {(): 0, (A,): 0}), True)
        # The key () need not be there, but an end leads to it.
        self.assertIs(is_budgets(box, frame, 0, 1, {}), True)
        self.assertIs(is_budgets(box, frame, 0, 1, {(A,): 0}), False)
        self.assertIs(is_budgets(box, frame, 0, 1, {(): 1, (B,): 0}), False)
        self.assertIs(is_budgets(box, frame, 0, 1, {(): 10 ** 6, (B,): 10 ** 6}), True)
        wrong = [{(): 0}, list(right.items()), (), [], {**right, (C,): 0}, {**right, 0: 0}, {**right, (): -1},
                 {**right, (): "0"}, {**right, (A, B): 0}, {**right, (): None}]
        for thing in wrong + untrue(right) + [thing for thing in any_values() if thing != {}]:
            self.assertIs(is_budgets(box, frame, 1, 1, thing), False, thing)

    def test_is_ruin(self):
        box, frame, _ = DEAR[0]
        told = (box, frame, 0, 1, 1)
        # Both wires are wanted till one is moved, then the end and the other one, till a second one is moved.
        right = ruin(*told)
        costs = costs_of(game_of(box, frame, 99))
        self.assertTrue(judged_ruin(costs, 0, 1, 1, right))
        self.assertIs(is_ruin(*told, dict(reversed(list(right.items())))), True)
        far = {key: rank + 10 ** 6 for key, rank in right.items()}
        self.assertIs(is_ruin(*told, far), True)
        self.assertIs(is_ruin(*told, {**right, ((), 10 ** 6): 1}), False)
        self.assertIs(is_ruin(box, frame, 0, 1, 2, right), False)
        self.assertIs(is_ruin(box, frame, 1, 1, 1, right), False)
        self.assertIs(is_ruin(box, frame, 0, 2, 1, right), True)
        low = {key: rank - min(right.values()) for key, rank in right.items()}
        wrong = [{}, low, list(right.items()), {**right, ((C,), 0): 9}, {**right, 0: 1}, {**right, ((), -1): 1},
                 {**right, ((), 0, 0): 10 ** 6}, {**right, ((),): 10 ** 6}, {**right, ((), "0"): 10 ** 6},
                 {**right, ((), None): 10 ** 6}, {**right, ((), 1): None}, {key: 1 for key in right},
                 {key: rank for key, rank in right.items() if key != ((), 1)}]
        for thing in wrong + untrue(right) + any_values():
            self.assertIs(is_ruin(*told, thing), False, thing)
        # A key with more left stands for those with less.
        more = {key: rank for key, rank in right.items()}
        for (way, number), rank in list(right.items()):
            if number == 0 and (way, 1) not in right:
                more.pop((way, 0))
                more[(way, 1)] = rank
        self.assertIs(is_ruin(*told, more), judged_ruin(costs, 0, 1, 1, more))

    def test_returned_anew(self):
        box, frame, _ = DEAR[0]
        anew(self, budgets, box, frame, 1, 2)
        anew(self, ruin, box, frame, 0, 1, 3)


class Refused(unittest.TestCase):
    def every_function(self):
        """All functions of the point, with what they are given behind box and frame, right and wrong."""
        return [(least_budget, (0, 1), (0, 0)), (budgets, (0, 1), (100, 1)), (is_budgets, (0, 1, None), (None, 1, None)),
                (ruin, (0, 1, 0), (0, 1, 100)), (is_ruin, (0, 1, 0, None), (0, 1, None, None))]

    def test_refusals(self):
        box, frame = plain(2, 2), ((2,),)
        more = {1: [((1, 1, 1),), [(2,)], ((0,),), ((1,), (2,))] + untrue(((1,),)), 2: [100, "1"], 3: [0, 100, "1"],
                4: [100, "1"]}
        errors = [BadBox, BadFrame, BadGain, BadPrice]
        refuse(self, least_budget, [box, frame, 0, 1], errors, more)
        refuse(self, budgets, [box, frame, 99, 99], errors, more)
        refuse(self, is_budgets, [box, frame, 0, 99, None], errors + [None], more)
        refuse(self, ruin, [box, frame, 99, 1, 0], errors + [BadBudget], more)
        refuse(self, is_ruin, [box, frame, 5, 5, 99, None], errors + [BadBudget, None], more)

    def test_not_whole(self):
        for function, right, wrong in self.every_function():
            for box, frame in ((plain(2, 1), ((2,),)), (EMPTY, ((1,),)), (plain(3, 2), greatest_loads(3, 2))):
                for given in (right, wrong):
                    with self.assertRaises(NotWhole):
                        function(box, frame, *given)
            for frame in (((0,),), ((0, 0),), None):
                with self.assertRaises(BadFrame):
                    function(EMPTY, frame, *right)

    def test_limits(self):
        frame = ((99,) * 10,)
        for function, right, wrong in self.every_function():
            for given in (right, wrong):
                too_many(self, 20000, function, tree_box(20001), frame, *given)
                too_many(self, 1000, function, SUMS_1001, frame, *given)
                for box in (SUMS_1000, tree_box(20000)):
                    with self.assertRaises(NotWhole):
                        function(box, frame, *given)
            function(*EDGES[200], *right)
            too_many(self, 200, function, *EDGES[201], *right)
            with self.assertRaises((BadGain, BadPrice, BadBudget)):
                function(*EDGES[201], *wrong)


if __name__ == "__main__":
    unittest.main()
