"""Points 40 and 41: splits."""

import random
import unittest

from allcalls.boxes import crossed, plain
from allcalls.errors import BadLoad, BadRoom, BadSides
from allcalls.frames import greatest_loads
from allcalls.loads import is_way_for, way_for
from allcalls.splits import (crossed_split, is_crossed_split, is_plain_split, mates_way, plain_bar, plain_need,
                             plain_split, side_sums, triangle_sums)
from tests.helpers import (any_values, anew, ascending_dict, count_load, every_load, listed, pairs_of, refuse, untrue,
                           with_one)


def at_side(sides, load, side):
    return sum(number for pair, number in zip(pairs_of(sides), load) if side in pair)


def between(sides, load, three):
    return sum(number for pair, number in zip(pairs_of(sides), load) if set(pair) <= set(three))


def some_load(rnd, sides, most):
    return tuple(rnd.randint(0, most) for _ in pairs_of(sides))


class Plain(unittest.TestCase):
    def test_sums(self):
        self.assertEqual(side_sums(2, (7,)), (7, 7))
        self.assertEqual(side_sums(3, (1, 2, 4)), (3, 5, 6))
        self.assertEqual(side_sums(4, (1, 2, 4, 8, 16, 32)), (7, 25, 42, 52))
        self.assertEqual(side_sums(4, (99,) * 6), (297,) * 4)
        self.assertEqual(triangle_sums(2, (7,)), {})
        self.assertEqual(triangle_sums(3, (1, 2, 4)), {(0, 1, 2): 7})
        self.assertEqual(triangle_sums(4, (1, 2, 4, 8, 16, 32)),
                         {(0, 1, 2): 11, (0, 1, 3): 21, (0, 2, 3): 38, (1, 2, 3): 56})
        ascending_dict(self, triangle_sums(4, (0,) * 6))
        anew(self, triangle_sums, 4, (1,) * 6)

    def test_need(self):
        self.assertEqual(plain_need(2, (0,)), 0)
        self.assertEqual(plain_need(2, (99,)), 99)
        self.assertEqual(plain_need(3, (5, 5, 5)), 15)
        self.assertEqual(plain_need(4, (1, 1, 1, 0, 0, 0)), 3)
        self.assertEqual(plain_need(4, (1, 1, 0, 1, 0, 0)), 3)
        self.assertEqual(plain_need(4, (1, 0, 0, 0, 0, 1)), 1)
        rnd = random.Random(40)
        for _ in range(300):
            sides = rnd.randint(2, 4)
            load = some_load(rnd, sides, rnd.choice([1, 3, 99]))
            sums = list(side_sums(sides, load))
            greatest = max(sums + list(triangle_sums(sides, load).values()))
            self.assertEqual(sums, [at_side(sides, load, side) for side in range(sides)])
            for three, total in triangle_sums(sides, load).items():
                self.assertEqual(total, between(sides, load, three))
            self.assertEqual(plain_need(sides, load), greatest)
            self.assertLessEqual(greatest, max(sums) + max(sums) // 2)

    def test_refusals(self):
        for function in (side_sums, triangle_sums, plain_need):
            refuse(self, function, [3, (1, 0, 1)], [BadSides, BadLoad],
                   {0: [1, 5, 6], 1: [(1, 1), (0, 0, 100), [0, 0, 0]] + untrue((1, 0, 1))})
        for function in (plain_split, plain_bar):
            refuse(self, function, [3, (1, 0, 1), 2], [BadSides, BadLoad, BadRoom], {0: [1, 5], 2: [-1, 100, "2"]})
            with self.assertRaises(BadSides):
                function(5, (0,) * 10, 2)
            function(3, (1, 0, 1), 0)
            function(3, (1, 0, 1), 99)
        refuse(self, is_plain_split, [4, (0,) * 6, 2, None], [BadSides, BadLoad, BadRoom, None], {0: [5], 2: [100]})

    def test_split_or_bar(self):
        rnd = random.Random(41)
        for _ in range(400):
            sides = rnd.randint(2, 4)
            load = some_load(rnd, sides, rnd.choice([1, 2, 5, 30]))
            need = plain_need(sides, load)
            for room in {0, max(0, need - 1), need, need + 1, 99}:
                if room > 99:
                    continue
                split, held = plain_split(sides, load, room), plain_bar(sides, load, room)
                self.assertEqual(split is not None, need <= room)
                self.assertEqual(held is None, need <= room)
                if split is not None:
                    self.assertIs(is_plain_split(sides, load, room, split), True)
                    self.assertEqual(len(split), room)

    def test_bar(self):
        self.assertEqual(plain_bar(3, (1, 1, 1), 1), ("side", 0))
        self.assertEqual(plain_bar(3, (1, 1, 1), 2), ("triangle", (0, 1, 2)))
        self.assertIsNone(plain_bar(3, (1, 1, 1), 3))
        self.assertEqual(plain_bar(4, (0, 1, 0, 1, 0, 2), 2), ("side", 2))
        self.assertEqual(plain_bar(4, (0, 1, 1, 0, 0, 1), 2), ("triangle", (0, 2, 3)))
        self.assertEqual(plain_bar(2, (1,), 0), ("side", 0))
        self.assertIsNone(plain_bar(2, (0,), 0))

    def test_heart_with_boxes(self):
        for sides, most in ((2, 3), (3, 2), (4, 1)):
            for load in every_load(sides, most):
                for tracks in (1, 2, 3):
                    self.assertEqual(way_for(plain(sides, tracks), load) is not None,
                                     plain_need(sides, load) <= tracks)

    def test_is_plain_split(self):
        load = (1, 1, 0, 0, 0, 1)
        right = [(1, 0, 0, 0, 0, 1), (0, 1, 0, 0, 0, 0)]
        zero = (0,) * 6
        for thing in (right, right[::-1], tuple(right)):
            self.assertIs(is_plain_split(4, load, 2, thing), True)
        self.assertIs(is_plain_split(4, load, 3, right + [zero]), True)
        self.assertIs(is_plain_split(4, zero, 0, []), True)
        self.assertIs(is_plain_split(4, zero, 0, ()), True)
        wrong = [
            right[:1], right + [zero], right[:1] * 2, [right[0], zero], [load, zero], [], [list(right[0]), right[1]],
            [right[0], (0, 1, 0, 0, 0)], [right[0], (0, 2, 0, 0, 0, 0)], [right[0], None], {0: right[0], 1: right[1]},
            [(1, 0, 0, 0, 0, 1), (0, 1, 0, 0, 0, -1)],
        ]
        for thing in wrong + untrue(right) + any_values():
            self.assertIs(is_plain_split(4, load, 2, thing), False, thing)
        anew(self, plain_split, 4, load, 3)


class Crossed(unittest.TestCase):
    def test_each_let_load_has_one(self):
        rnd = random.Random(42)
        for _ in range(300):
            sides = rnd.randint(2, 5)
            load = some_load(rnd, sides, rnd.choice([1, 2, 4, 9, 24]))
            greatest = max(at_side(sides, load, side) for side in range(sides))
            for room in {max(0, greatest - 1), greatest, greatest + 1}:
                if room > 99:
                    continue
                split = crossed_split(sides, load, room)
                self.assertEqual(split is not None, greatest <= room)
                if split is not None:
                    self.check(sides, load, room, split)

    def check(self, sides, load, room, split):
        self.assertIs(is_crossed_split(sides, load, room, split), True)
        self.assertEqual(len(split), room // 2 + room % 2)
        self.assertEqual([sum(numbers) for numbers in zip(*split)], list(load) if split else [])
        for k, part in enumerate(split):
            own = 2 if k < room // 2 else 1
            self.assertTrue(all(at_side(sides, part, side) <= own for side in range(sides)))

    def test_all_greatest_loads(self):
        for sides, tracks in ((3, 5), (3, 6), (4, 4), (4, 5), (5, 3), (5, 4)):
            for load in greatest_loads(sides, tracks)[:120]:
                self.check(sides, load, tracks, crossed_split(sides, load, tracks))

    def test_ends(self):
        self.assertEqual(crossed_split(3, (0, 0, 0), 0), [])
        self.assertIsNone(crossed_split(3, (1, 0, 0), 0))
        self.assertEqual(crossed_split(2, (1,), 1), [(1,)])
        self.assertEqual(crossed_split(3, (1, 1, 1), 2), [(1, 1, 1)])
        self.check(2, (99,), 99, crossed_split(2, (99,), 99))
        self.check(5, (24,) * 10, 96, crossed_split(5, (24,) * 10, 96))
        self.check(5, (24,) * 10, 99, crossed_split(5, (24,) * 10, 99))
        self.assertIsNone(crossed_split(5, (25,) * 10, 99))
        anew(self, crossed_split, 4, (1,) * 6, 4)

    def test_wide_splits(self):
        for load in ((24,) * 10, (0,) * 10, (99,) + (0,) * 8 + (99,), (1,) * 10, (33, 33, 33, 0, 33, 33, 0, 33, 0, 0)):
            self.check(5, load, 99, crossed_split(5, load, 99))
        rnd = random.Random(43)
        for _ in range(60):
            sides = rnd.choice([4, 5])
            load = (0,) * len(pairs_of(sides))
            while sum(load) < 180:
                more = with_one(sides, load, rnd.choice(pairs_of(sides)))
                if max(at_side(sides, more, side) for side in range(sides)) > 99:
                    break
                load = more
            self.check(sides, load, 99, crossed_split(sides, load, 99))

    def test_ways_of_mates(self):
        for load in ((0,) * 10, (2, 0, 0, 0, 0, 0, 0, 0, 0, 2), (1, 0, 0, 1, 1, 0, 0, 1, 0, 1)):
            way = mates_way(5, load)
            self.assertEqual(count_load(5, way), load)
            self.assertIs(is_way_for(crossed(5, 2), load, way), True)
        rnd = random.Random(44)
        for _ in range(200):
            load = (0,) * 10
            for _ in range(12):
                more = with_one(5, load, rnd.choice(pairs_of(5)))
                if max(at_side(5, more, side) for side in range(5)) <= 2:
                    load = more
            self.assertIs(is_way_for(crossed(5, 2), load, mates_way(5, load)), True)

    def test_refusals(self):
        wrong = {0: [1, 6], 1: [(1, 1), (0, 0, 100), [0, 0, 0]] + untrue((1, 0, 1)), 2: [-1, 100]}
        refuse(self, crossed_split, [3, (1, 0, 1), 2], [BadSides, BadLoad, BadRoom], wrong)
        refuse(self, is_crossed_split, [3, (1, 0, 1), 2, None], [BadSides, BadLoad, BadRoom, None], wrong)
        wrong = {0: [1, 6], 1: [(1, 2, 0), (3, 0, 0), (0, 0, 100), (1, 1), [0, 0, 0]] + untrue((1, 0, 1))}
        refuse(self, mates_way, [3, (1, 0, 1)], [BadSides, BadLoad], wrong)

    def test_is_crossed_split(self):
        load = (2, 2, 1)
        right = [(1, 1, 1), (1, 1, 0), (0, 0, 0)]
        self.assertIs(is_crossed_split(3, load, 4, right[:2]), True)
        self.assertIs(is_crossed_split(3, load, 4, tuple(right[:2])), True)
        self.assertIs(is_crossed_split(3, load, 5, right), True)
        self.assertIs(is_crossed_split(3, load, 5, [(1, 1, 1), (0, 0, 0), (1, 1, 0)]), False)
        self.assertIs(is_crossed_split(3, load, 5, [(1, 1, 1), (1, 1, 0), (0, 0, 0), (0, 0, 0)]), False)
        self.assertIs(is_crossed_split(3, (1, 1, 1), 3, [(0, 1, 1), (1, 0, 0)]), True)
        # Only the last one may be let by 1 alone.
        self.assertIs(is_crossed_split(3, (1, 1, 1), 3, [(1, 0, 0), (0, 1, 1)]), False)
        wrong = [right, right[:1], [(2, 2, 1), (0, 0, 0)], [(1, 1, 1), (1, 0, 0)], [(1, 1, 1), None], {0: right[0]},
                 [list(right[0]), right[1]], [(1, 1, 1), (1, 1)], [], [(1, 1, 2), (1, 1, -1)]]
        for thing in wrong + untrue(right[:2]) + any_values():
            self.assertIs(is_crossed_split(3, load, 4, thing), False, thing)

    def test_mates_way(self):
        for sides in range(2, 6):
            let = [load for load in every_load(sides, 2 if sides < 5 else 1)
                   if all(at_side(sides, load, side) <= 2 for side in range(sides))]
            for load in let:
                self.assertIs(is_way_for(crossed(sides, 2), load, mates_way(sides, load)), True)
        self.assertEqual(mates_way(4, (0,) * 6), ())
        load = (0, 0, 1, 1, 2, 0, 0, 0, 0, 1)
        self.assertIs(is_way_for(crossed(5, 2), load, mates_way(5, load)), True)


class Listed(unittest.TestCase):
    def test_parts_are_tuples(self):
        for thing in listed([(1, 0, 0), (0, 1, 0)]):
            self.assertIs(is_plain_split(3, (1, 1, 0), 2, thing), False)


if __name__ == "__main__":
    unittest.main()
