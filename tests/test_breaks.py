"""Points 90 to 92: lots of switches that break loads and frames, trees of ways, what is left and what matters."""

import random
import unittest
from itertools import combinations, product

from allcalls.boxes import Box, crossed, full, plain, without
from allcalls.breaks import (are_frame_trees, breaking_lots, breaks, fewest_breaking, frame_break, frame_trees,
                             holds_through, is_way_tree, left_frame, matters, spare, strengthened, way_left, way_tree)
from allcalls.errors import (BadBox, BadFrame, BadLoad, BadLot, BadMost, BadNumber, BadSwitch, BadTree, CallError)
from allcalls.finders import Finder
from allcalls.frames import is_frame, is_way
from allcalls.loads import way_for
from allcalls.sheaves import Sheaf
from tests.helpers import (any_values, anew, count_load, every_way, inside, listed, pairs_of, refuse, some_box,
                           some_frame, too_many, under, untrue)

A = ((0, 0), (1, 0))
B = ((0, 1), (1, 1))
C = ((0, 2), (1, 2))
EMPTY = Box(2, 1, ())


def every_lot(switches, most):
    """All lots of at most so many switches, fewest then least."""
    return [lot for many in range(most + 1) for lot in combinations(switches, many)]


def ways_with(box, load):
    return [way for way in every_way(box) if count_load(box.sides, way) == load]


def is_broken(ways, lot):
    """Whether none of the ways is left without the lot."""
    return not any(not set(way) & set(lot) for way in ways)


def is_plain_tree(ways, number, gone, thing):
    """Whether a pair is a tree, by the document's words, the ways for the load being given."""
    way, trees = thing
    if way not in ways or set(way) & gone:
        return False
    if number == 0:
        return trees == {}
    return set(trees) == set(way) and all(is_plain_tree(ways, number - 1, gone | {switch}, trees[switch])
                                          for switch in trees)


def come_to(lot, tree):
    """The way at which one comes by the first switches that are gone, written as the document tells it."""
    way, trees = tree
    for switch in way:
        if switch in lot:
            return come_to(lot, trees[switch])
    return way


def some_boxes(seed, many, most=8):
    rnd = random.Random(seed)
    for _ in range(many):
        box = some_box(rnd, rnd.randint(2, 4), rnd.randint(1, 3), most)
        yield rnd, box, some_frame(rnd, box.sides, 2, 3)


def some_load(rnd, box):
    """Mostly a load that the box carries."""
    if rnd.random() < 0.2:
        return tuple(rnd.randint(0, 2) for _ in pairs_of(box.sides))
    return count_load(box.sides, rnd.choice(every_way(box)))


class Loads(unittest.TestCase):
    def test_example(self):
        a, b, c = plain(3, 1).switches
        self.assertEqual(fewest_breaking(plain(3, 1), (1, 0, 0)), (a,))
        self.assertEqual(breaking_lots(plain(3, 1), (1, 0, 0)), [(a,)])
        lot = fewest_breaking(plain(3, 2), (1, 0, 0))
        self.assertEqual(lot, (a, ((0, 1), (1, 1))))
        tree = (A, {}), (A, {A: (B, {})})
        self.assertIs(is_way_tree(plain(3, 2), (1, 0, 0), 0, ((A,), {})), True)
        self.assertIs(is_way_tree(plain(3, 2), (1, 0, 0), 1, ((A,), {A: ((B,), {})})), True)
        self.assertIs(is_way_tree(plain(3, 2), (1, 0, 0), 1, tree), False)
        self.assertEqual(way_tree(plain(3, 1), (1, 0, 0), 0), ((a,), {}))
        self.assertIsNone(way_tree(plain(3, 1), (1, 0, 0), 1))
        self.assertIs(breaks(plain(3, 1), (1, 0, 0), (b, c)), False)
        self.assertIs(breaks(plain(3, 1), (1, 0, 0), (a, c)), True)

    def test_some_lots(self):
        for rnd, box, _ in some_boxes(90, 120):
            load = some_load(rnd, box)
            ways = ways_with(box, load)
            every = every_lot(box.switches, len(box.switches))
            broken = {lot for lot in every if is_broken(ways, lot)}
            for lot in rnd.sample(every, min(10, len(every))):
                told = breaks(box, load, lot)
                self.assertIs(told, lot in broken)
                self.assertEqual(told, way_for(without(box, lot), load) is None)
            first = [lot for lot in every if lot in broken][:1]
            self.assertEqual(fewest_breaking(box, load), first[0] if first else None)
            self.assertEqual(first == [], not any(load))
            least = [lot for lot in broken if not any(lot[:k] + lot[k + 1:] in broken for k in range(len(lot)))]
            self.assertEqual(breaking_lots(box, load), sorted(least))
            less = tuple(rnd.randint(0, number) for number in load)
            self.assertTrue(all(lot in broken for lot in every if is_broken(ways_with(box, less), lot)))

    def test_zeros_and_loads_without_ways(self):
        self.assertIsNone(fewest_breaking(plain(2, 2), (0,)))
        self.assertIsNone(fewest_breaking(EMPTY, (0,)))
        self.assertEqual(breaking_lots(plain(2, 2), (0,)), [])
        self.assertEqual(breaking_lots(EMPTY, (0,)), [])
        self.assertEqual(fewest_breaking(plain(2, 2), (3,)), ())
        self.assertEqual(breaking_lots(plain(2, 2), (3,)), [()])
        self.assertIs(breaks(plain(2, 2), (0,), (A, B)), False)
        self.assertIs(breaks(plain(2, 2), (99,), ()), True)
        self.assertIs(breaks(EMPTY, (0,), ()), False)
        anew(self, breaking_lots, plain(2, 2), (1,))

    def test_some_wide_boxes(self):
        # Here ways are not counted.
        self.assertIs(breaks(full(4, 3), (0,) * 6, ()), False)
        self.assertIs(breaks(full(5, 6), (1,) * 10, full(5, 6).switches[:5]), False)
        between = tuple(switch for switch in full(4, 3).switches if (switch[0][0], switch[1][0]) == (0, 1))
        self.assertEqual(fewest_breaking(full(4, 3), (1, 0, 0, 0, 0, 0)), between)
        self.assertEqual(fewest_breaking(full(2, 6), (6,)), tuple(((0, 0), (1, track)) for track in range(6)))
        self.assertEqual(len(fewest_breaking(full(2, 6), (5,))), 12)
        self.assertIs(breaks(crossed(4, 6), (2,) * 6, ()), False)

    def test_dense_boxes(self):
        # There are as many ways apart as switches between the two first sides, so nothing less than all of them breaks.
        for sides, tracks in ((3, 4), (3, 5), (4, 3), (3, 6)):
            box = full(sides, tracks)
            load = (1,) * len(pairs_of(sides))
            between = tuple(switch for switch in box.switches if (switch[0][0], switch[1][0]) == (0, 1))
            lot = fewest_breaking(box, load)
            self.assertEqual(len(lot), tracks * tracks)
            self.assertLessEqual(lot, between)
            self.assertIs(breaks(box, load, lot), True)
            self.assertIs(breaks(box, load, lot[1:]), False)
            number = min(30, tracks * tracks)
            self.assertIs(holds_through(box, (load,), number), tracks * tracks > number)
            self.assertIs(holds_through(box, (load,), number - 1), True)

    def test_wires_between_two_sides(self):
        # All switches that are left have one of fewer pins than there are wires.
        for tracks in range(1, 7):
            for wires in range(1, tracks + 1):
                lot = fewest_breaking(full(2, tracks), (wires,))
                self.assertEqual(lot, tuple(((0, one), (1, two)) for one in range(tracks - wires + 1)
                                            for two in range(tracks)))
                self.assertIs(holds_through(full(2, tracks), ((wires,),), min(30, len(lot)) - 1), True)
                self.assertIs(holds_through(full(2, tracks), ((wires,),), min(30, len(lot))), len(lot) > 30)

    def test_few_switches(self):
        fourteen = Box(2, 6, full(2, 6).switches[:14])
        fifteen = Box(2, 6, full(2, 6).switches[:15])
        # Two sides' wires: 6 switches at the pin (0, 0), 6 at (0, 1), 2 or 3 at (0, 2).
        self.assertEqual(len(fourteen.switches), 14)
        self.assertEqual(breaking_lots(fourteen, (3,))[0], full(2, 6).switches[:6])
        self.assertEqual(len(breaking_lots(plain(2, 6), (6,))), 6)
        for load in ((3,), (0,), (99,)):
            too_many(self, 14, breaking_lots, fifteen, load)
        self.assertEqual(fewest_breaking(fifteen, (3,)), fifteen.switches[12:])
        for call in ((breaking_lots, fifteen, (-1,)), (matters, fifteen, ((3,),), ((0, 5), (1, 5)))):
            with self.assertRaises((BadLoad, BadSwitch)):
                call[0](*call[1:])
        too_many(self, 14, matters, fifteen, ((3,),), A)
        too_many(self, 14, spare, fifteen, ((0,),))
        self.assertIsNotNone(matters(fourteen, ((3,),), A))
        self.assertEqual(spare(fourteen, ((3,),)), ())


class Gathered(unittest.TestCase):
    """Ways that have no free switch in common show that so few switches break nothing, so they have to be right."""

    def check(self, box, load, gone, free, many):
        finder = Finder(box)
        found = Sheaf(finder, load, finder.lot_of(gone), finder.lot_of(free), many).gather()
        if found is None:
            return False
        ways = [finder.switches_in(lot) for lot in found]
        self.assertEqual(len(ways), many)
        for way in ways:
            self.assertIs(is_way(box, way), True)
            self.assertEqual(count_load(box.sides, way), load)
            self.assertFalse(set(way) & set(gone))
        taken = [switch for way in ways for switch in way if switch in free]
        self.assertEqual(len(taken), len(set(taken)))
        return True

    def test_some_boxes(self):
        told = [0, 0]
        rnd = random.Random(96)
        for _ in range(400):
            sides, tracks = rnd.choice([(2, 4), (3, 3), (3, 4), (4, 2), (4, 3)])
            great = full(sides, tracks)
            box = Box(sides, tracks, tuple(sorted(rnd.sample(great.switches, rnd.randint(4, len(great.switches))))))
            load = tuple(rnd.choice([0, 1, 1, 2]) for _ in pairs_of(sides))
            if any(load):
                gone = [switch for switch in box.switches if rnd.random() < 0.1]
                free = [switch for switch in box.switches if rnd.random() < 0.8 and switch not in gone]
                told[self.check(box, load, gone, free, rnd.randint(1, 6))] += 1
        self.assertGreater(min(told), 100)

    def test_all_switches(self):
        # Each of all these ways is needed, so switches are given up again and again.
        for sides, tracks, load, many in ((3, 4, (1, 1, 1), 16), (3, 5, (1, 1, 1), 25), (4, 3, (1,) * 6, 9),
                                          (2, 6, (6,), 6), (2, 5, (5,), 5), (3, 4, (2, 2, 2), 8), (4, 4, (1,) * 6, 16)):
            switches = full(sides, tracks).switches
            self.assertIs(self.check(full(sides, tracks), load, [], switches, many), True)
            self.assertIs(self.check(full(sides, tracks), load, [], switches, many + 1), False)


class Trees(unittest.TestCase):
    def test_some_trees(self):
        both = [0, 0]
        for rnd, box, _ in some_boxes(91, 150):
            load = some_load(rnd, box)
            ways = ways_with(box, load)
            number = rnd.randint(0, 3)
            broken = any(is_broken(ways, lot) for lot in every_lot(box.switches, number))
            tree = way_tree(box, load, number)
            both[broken] += 1
            self.assertEqual(tree is None, broken)
            fewest = fewest_breaking(box, load)
            self.assertEqual(broken, fewest is not None and len(fewest) <= number)
            if tree is not None:
                self.assertTrue(is_plain_tree(ways, number, set(), tree))
                self.assertIs(is_way_tree(box, load, number, tree), True)
                self.assertIs(is_way_tree(box, load, number + 1, tree), not any(load))
                for lot in combinations(box.switches, number):
                    left = way_left(box, load, lot, tree)
                    self.assertEqual(left, come_to(lot, tree))
                    self.assertTrue(left in ways and not set(left) & set(lot))
                self.some_other(rnd, box, load, number, tree, ways)
        self.assertGreater(min(both), 40)

    def some_other(self, rnd, box, load, number, tree, ways):
        """A tree with another way somewhere is judged by the document's words."""
        for _ in range(3):
            other = rnd.choice(ways)
            thing, gone = tree, []
            while thing[1] and rnd.random() < 0.7:
                gone.append(rnd.choice(list(thing[1])))
                thing = thing[1][gone[-1]]
            changed = (other, thing[1])
            for at in range(len(gone) - 1, -1, -1):
                outer = tree
                for switch in gone[:at]:
                    outer = outer[1][switch]
                changed = (outer[0], {**outer[1], gone[at]: changed})
            self.assertIs(is_way_tree(box, load, number, changed), is_plain_tree(ways, number, set(), changed))

    def test_is_way_tree(self):
        box, load = plain(2, 3), (2,)
        right = ((A, B), {A: ((B, C), {}), B: ((A, C), {})})
        self.assertIs(is_way_tree(box, load, 1, right), True)
        self.assertIs(is_way_tree(box, load, 1, ((A, B), {B: ((A, C), {}), A: ((B, C), {})})), True)
        self.assertIs(is_way_tree(box, load, 0, ((A, B), {})), True)
        wrong = [((A, B), {}), ((A, B), {A: ((B, C), {})}), ((A, B), {A: ((A, C), {}), B: ((A, C), {})}),
                 ((A, B), {A: ((B, C), {}), B: ((A, C), {}), C: ((A, B), {})}), ((B, A), right[1]), ((A,), right[1]),
                 ((A, B), {A: ((B, C), {}), C: ((A, B), {})}), ((A, B), [right[1]]), (right,), right + (0,), [right],
                 ((A, B), {A: ((B, C), {B: ((A, C), {})}), B: ((A, C), {})}), ((A, B), {A: (B, C), B: (A, C)}),
                 ((A, B), {0: ((B, C), {}), 1: ((A, C), {})}), ((A, B), None), ((A, B, C), right[1])]
        for thing in wrong + untrue(right) + listed(right) + any_values():
            self.assertIs(is_way_tree(box, load, 1, thing), False, thing)
        for number in (0, 2, 30):
            self.assertIs(is_way_tree(box, load, number, right), False)
        self.assertIs(is_way_tree(box, load, 0, ((A, B), {A: ((B, C), {})})), False)

    def test_zeros(self):
        for number in (0, 1, 30):
            self.assertEqual(way_tree(plain(2, 2), (0,), number), ((), {}))
            self.assertIs(is_way_tree(plain(2, 2), (0,), number, ((), {})), True)
            self.assertIs(is_way_tree(plain(2, 2), (0,), number, ((), {A: ((), {})})), False)
        self.assertEqual(way_left(full(2, 6), (0,), full(2, 6).switches, ((), {})), ())
        self.assertIsNone(way_tree(EMPTY, (1,), 0))

    def test_way_left(self):
        box, load = plain(2, 4), (2,)
        tree = way_tree(box, load, 2)
        d = ((0, 3), (1, 3))
        for lot in combinations((A, B, C, d), 2):
            self.assertEqual(way_left(box, load, lot, tree), come_to(lot, tree))
        one = ((A, B), {A: ((B, C), {}), B: ((A, C), {})})
        # The first switch of the lot is followed, whichever way comes of it.
        self.assertEqual(way_left(box, load, (B,), one), (A, C))
        self.assertEqual(way_left(box, load, (d,), one), (A, B))
        for lot, thing in (((), one), ((A, B), one), ((A,), tree), ((), tree)):
            with self.assertRaises(BadTree):
                way_left(box, load, lot, thing)
        self.assertEqual(way_left(box, load, (), ((A, d), {})), (A, d))

    def test_too_many(self):
        # The numbers 1 + m + .. + m ** number that are nearest to 20000, on both sides.
        for wires, number, many in ((5, 6, 19531), (140, 2, 19741), (26, 3, 18279), (2, 13, 16383), (990, 1, 991),
                                    (141, 2, 20023), (27, 3, 20440), (4, 7, 21845), (2, 14, 32767), (3, 9, 29524)):
            self.assertEqual(sum(wires ** power for power in range(number + 1)), many)
            sides = 2 if wires < 100 else 5
            left, load = wires, []
            for _ in pairs_of(sides):
                load.append(min(99, left))
                left -= load[-1]
            box = Box(sides, 1, ())
            if many > 20000:
                too_many(self, 20000, way_tree, box, tuple(load), number)
                too_many(self, 20000, frame_trees, box, (tuple(load),), number)
            else:
                self.assertIsNone(way_tree(box, tuple(load), number))
                self.assertIsNone(frame_trees(box, (tuple(load),), number))
            # The others do not count.
            self.assertIs(is_way_tree(box, tuple(load), number, ((), {})), False)
            self.assertIs(are_frame_trees(box, (tuple(load),), number, {}), False)
            self.assertIs(holds_through(box, (tuple(load),), number), False)
        # Wherever one load of the frame wants too many, and whether or not another one has no tree.
        for frame in (((0, 27, 0), (1, 0, 0)), ((0, 0, 27), (1, 0, 0)), ((0, 0, 1), (27, 0, 0))):
            too_many(self, 20000, frame_trees, plain(3, 1), frame, 3)
        self.assertIsNone(frame_trees(plain(3, 1), ((0, 0, 26), (1, 0, 0)), 3))
        too_many(self, 20000, way_tree, plain(2, 2), (2,), 30)
        self.assertIsNone(way_tree(plain(2, 2), (1,), 30))
        self.assertEqual(count_ways(way_tree(full(2, 4), (3,), 5)), sum(3 ** power for power in range(6)))
        with self.assertRaises(BadNumber):
            way_tree(EMPTY, (99,), 31)
        anew(self, way_tree, plain(2, 3), (2,), 1)

    def test_a_great_tree(self):
        box = full(2, 6)
        tree = way_tree(box, (5,), 6)
        self.assertEqual(count_ways(tree), 19531)
        self.assertIs(is_way_tree(box, (5,), 6, tree), True)


def count_ways(tree):
    return 1 + sum(count_ways(other) for other in tree[1].values())


class Frames(unittest.TestCase):
    def test_some_frames(self):
        for rnd, box, frame in some_boxes(92, 120):
            ways = {load: ways_with(box, load) for load in frame}
            every = every_lot(box.switches, len(box.switches))
            pair = frame_break(box, frame)
            broken = [lot for lot in every if any(is_broken(ways[load], lot) for load in frame)]
            lot = broken[0]
            self.assertEqual(pair, ([load for load in frame if is_broken(ways[load], lot)][0], lot))
            for number in (0, 1, 2, 3, 30):
                held = len(lot) > number
                self.assertIs(holds_through(box, frame, number), held)
                if number < 4:
                    trees = frame_trees(box, frame, number)
                    self.assertEqual(trees is not None, held)
                    if held:
                        self.assertEqual(tuple(trees), frame)
                        self.assertTrue(all(is_plain_tree(ways[load], number, set(), trees[load]) for load in frame))
                        self.assertIs(are_frame_trees(box, frame, number, trees), True)
                        self.assertIs(are_frame_trees(box, frame, number + 1, trees), False)

    def test_zeros(self):
        for box in (plain(3, 2), Box(3, 1, ())):
            zeros = ((0, 0, 0),)
            self.assertIsNone(frame_break(box, zeros))
            self.assertIs(holds_through(box, zeros, 30), True)
            self.assertEqual(frame_trees(box, zeros, 30), {(0, 0, 0): ((), {})})
            self.assertEqual(left_frame(box, zeros, box.switches), zeros)
            self.assertEqual(spare(box, zeros), box.switches)
            self.assertEqual(strengthened(box, zeros, 30, 0), ())
        self.assertIsNone(matters(plain(3, 2), ((0, 0, 0),), A))

    def test_frames_that_are_not_carried(self):
        frame = ((0, 0, 1), (3, 0, 0))
        box = plain(3, 2)
        self.assertEqual(frame_break(box, frame), ((3, 0, 0), ()))
        self.assertIs(holds_through(box, frame, 0), False)
        self.assertIsNone(frame_trees(box, frame, 0))
        self.assertEqual(left_frame(box, frame, ()), ((0, 0, 1), (2, 0, 0)))
        self.assertEqual(spare(box, frame), box.switches)
        for switch in box.switches:
            self.assertIsNone(matters(box, frame, switch))
        self.assertEqual(frame_break(box, ((0, 0, 1), (1, 0, 0)))[0], (1, 0, 0))

    def test_are_frame_trees(self):
        box, frame = plain(3, 2), ((0, 0, 1), (1, 0, 0))
        d, e = ((1, 0), (2, 0)), ((1, 1), (2, 1))
        right = {(0, 0, 1): ((d,), {d: ((e,), {})}), (1, 0, 0): ((A,), {A: ((B,), {})})}
        self.assertIs(are_frame_trees(box, frame, 1, right), True)
        self.assertIs(are_frame_trees(box, frame, 1, dict(reversed(list(right.items())))), True)
        swapped = dict(zip(right, reversed(list(right.values()))))
        wrong = [{}, swapped, {(1, 0, 0): right[(1, 0, 0)]}, {**right, (0, 0, 0): ((), {})}, list(right.items()),
                 {**right, 0: 0}, {**right, (1, 0, 0): ((A,), {})}, tuple(right), {load: None for load in frame}]
        for thing in wrong + untrue(right) + listed(right) + any_values():
            self.assertIs(are_frame_trees(box, frame, 1, thing), False, thing)
        anew(self, frame_trees, box, frame, 1)


class Left(unittest.TestCase):
    def test_some_left_frames(self):
        for rnd, box, frame in some_boxes(93, 120):
            lot = tuple(switch for switch in box.switches if rnd.random() < 0.3)
            carried = {count_load(box.sides, way) for way in every_way(without(box, lot))}
            kept = [load for load in carried if inside(frame, load)]
            tops = tuple(sorted(load for load in kept
                                if not any(load != other and under(load, other) for other in kept)))
            self.assertEqual(left_frame(box, frame, lot), tops)
            self.assertIs(is_frame(box.sides, tops), True)
            less = tuple(switch for switch in lot if rnd.random() < 0.5)
            self.assertTrue(all(inside(left_frame(box, frame, less), load) for load in tops))

    def test_too_many(self):
        box = plain(3, 1)
        self.assertEqual(len(list(product(range(50), range(100), range(1)))), 5000)
        self.assertEqual(left_frame(box, ((49, 99, 0),), ()), ((0, 1, 0), (1, 0, 0)))
        too_many(self, 5000, left_frame, box, ((0, 0, 1), (49, 99, 0)), ())
        too_many(self, 5000, left_frame, box, ((99, 99, 99),), box.switches)
        with self.assertRaises(BadLot):
            left_frame(box, ((99, 99, 99),), None)
        # Loads below two of the frame's are counted once: 75 * 66 and 50 more.
        frame = ((49, 0, 1), (74, 65, 0))
        self.assertEqual(75 * 66 + 50, 5000)
        self.assertEqual(left_frame(box, frame, box.switches), ((0, 0, 0),))
        too_many(self, 5000, left_frame, box, ((50, 0, 1), (74, 65, 0)), box.switches)


class Matters(unittest.TestCase):
    def test_some_switches(self):
        told = [0, 0]
        for rnd, box, frame in some_boxes(94, 90):
            ways = {load: ways_with(box, load) for load in frame}
            every = every_lot(box.switches, len(box.switches))
            broken = {lot for lot in every if any(is_broken(ways[load], lot) for load in frame)}
            plainly = []
            for switch in box.switches:
                shown = [lot for lot in every if switch not in lot and lot not in broken
                         and tuple(sorted(lot + (switch,))) in broken]
                self.assertEqual(matters(box, frame, switch), shown[0] if shown else None)
                told[bool(shown)] += 1
                if not shown:
                    plainly.append(switch)
            found = spare(box, frame)
            self.assertEqual(found, tuple(plainly))
            for lot in every:
                others = tuple(switch for switch in lot if switch not in found)
                self.assertEqual(tuple(sorted(others + found)) in broken, others in broken)
            unused = [switch for switch in box.switches
                      if not any(switch in way for load in frame for way in ways[load])]
            self.assertTrue(set(unused) <= set(found))
            if len(frame) == 1 and ways[frame[0]]:
                self.assertEqual(list(found), unused)
        self.assertGreater(min(told), 50)


class Strengthened(unittest.TestCase):
    def test_some_lots(self):
        told = {}
        rnd = random.Random(95)
        for _ in range(80):
            box = some_box(rnd, rnd.choice([2, 2, 3]), rnd.choice([2, 2, 3]), 3)
            frame = some_frame(rnd, box.sides, rnd.choice([1, 1, 2]), rnd.choice([1, 2]))
            if len(full(box.sides, box.tracks).switches) > 12:
                continue
            number, most = rnd.randint(0, 3), rnd.randint(0, 3)
            new = [switch for switch in full(box.sides, box.tracks).switches if switch not in box.switches]
            first = None
            for lot in every_lot(new, most):
                stronger = Box(box.sides, box.tracks, tuple(sorted(box.switches + lot)))
                every = [ways_with(stronger, load) for load in frame]
                gone = every_lot(stronger.switches, number)
                if not any(is_broken(ways, one) for ways in every for one in gone):
                    first = lot
                    break
            self.assertEqual(strengthened(box, frame, number, most), first)
            name = None if first is None else len(first)
            told[name] = told.get(name, 0) + 1
        self.assertEqual(len(told), 5)

    def test_small(self):
        box, frame = Box(2, 2, (A,)), ((1,),)
        self.assertEqual(strengthened(box, frame, 0, 3), ())
        self.assertEqual(strengthened(box, frame, 1, 3), (((0, 0), (1, 1)),))
        self.assertEqual(strengthened(box, frame, 2, 3), (((0, 0), (1, 1)), ((0, 1), (1, 0))))
        self.assertEqual(strengthened(box, frame, 3, 3), (((0, 0), (1, 1)), ((0, 1), (1, 0)), B))
        self.assertIsNone(strengthened(box, frame, 4, 3))
        self.assertIsNone(strengthened(box, frame, 3, 2))
        self.assertIsNone(strengthened(box, frame, 1, 0))
        self.assertEqual(strengthened(EMPTY, frame, 0, 1), (A,))
        self.assertIsNone(strengthened(EMPTY, ((2,),), 0, 3))

    def test_too_many(self):
        zeros = ((0, 0, 0),)
        for gone, most, many in ((26, 3, 19650), (25, 3, 20876), (25, 2, 1276), (0, 2, 2851), (0, 3, 70376)):
            great = full(3, 5)
            box = Box(3, 5, great.switches[:gone])
            new = len(great.switches) - gone
            ring, total = 1, 1
            for k in range(most):
                ring = ring * (new - k) // (k + 1)
                total += ring
            self.assertEqual(total, many)
            if many > 20000:
                # Whether or not () serves.
                too_many(self, 20000, strengthened, box, zeros, 0, most)
                too_many(self, 20000, strengthened, box, ((99, 0, 0),), 30, most)
            else:
                self.assertEqual(strengthened(box, zeros, 0, most), ())
                self.assertIsNone(strengthened(box, ((99, 0, 0),), 30, most))
        great = full(5, 5)
        self.assertEqual(strengthened(Box(5, 5, great.switches[:51]), ((0,) * 10,), 0, 2), ())
        too_many(self, 20000, strengthened, Box(5, 5, great.switches[:50]), ((0,) * 10,), 0, 2)
        self.assertEqual(strengthened(Box(5, 6, ()), ((0,) * 9 + (1,),), 0, 1), (((3, 0), (4, 0)),))
        with self.assertRaises(BadMost):
            strengthened(Box(5, 6, ()), ((0,) * 10,), 0, 4)


class Refused(unittest.TestCase):
    def test_refusals(self):
        box, frame = plain(2, 2), ((1,),)
        loads = [(3, 0), [1], (-1,), 1, (100,)] + untrue((1,))
        frames = [((1, 1, 1),), [(1,)]] + untrue(((1,),))
        lots = [(B, A), (A, A), A, [A], (C,), (((1, 0), (0, 0)),)] + untrue((A, B)) + listed((A, B))
        numbers = [31, "1"]
        self.assertTrue(all(is_way(box, lot) is False for lot in lots))
        refuse(self, breaks, [box, (1,), (A, B)], [BadBox, BadLoad, BadLot], {1: loads, 2: lots})
        for function in (fewest_breaking, breaking_lots):
            refuse(self, function, [box, (2,)], [BadBox, BadLoad], {1: loads})
        refuse(self, way_tree, [box, (1,), 30], [BadBox, BadLoad, BadNumber], {1: loads, 2: numbers})
        refuse(self, is_way_tree, [box, (1,), 0, None], [BadBox, BadLoad, BadNumber, None], {1: loads, 2: numbers})
        tree = ((A,), {A: ((B,), {})})
        trees = [((A,), {}), ((A,), {A: ((A,), {})}), ((B,), tree[1])] + untrue(tree) + listed(tree)
        refuse(self, way_left, [box, (1,), (A,), tree], [BadBox, BadLoad, BadLot, BadTree], {1: loads, 2: lots, 3: trees})
        refuse(self, frame_break, [box, frame], [BadBox, BadFrame], {1: frames})
        for function in (holds_through, frame_trees):
            refuse(self, function, [box, frame, 30], [BadBox, BadFrame, BadNumber], {1: frames, 2: numbers})
        refuse(self, are_frame_trees, [box, frame, 30, None], [BadBox, BadFrame, BadNumber, None],
               {1: frames, 2: numbers})
        refuse(self, left_frame, [box, frame, ()], [BadBox, BadFrame, BadLot], {1: frames, 2: lots})
        switches = [C, [(0, 0), (1, 0)], ((1, 0), (0, 0)), ((0, 0), (1, 1))] + untrue(B)
        refuse(self, matters, [box, frame, B], [BadBox, BadFrame, BadSwitch], {1: frames, 2: switches})
        refuse(self, spare, [box, frame], [BadBox, BadFrame], {1: frames})
        refuse(self, strengthened, [box, frame, 30, 3], [BadBox, BadFrame, BadNumber, BadMost],
               {1: frames, 2: numbers, 3: [4, "1"]})
        with self.assertRaises(CallError):
            way_left(box, (1,), (A,), None)


if __name__ == "__main__":
    unittest.main()
