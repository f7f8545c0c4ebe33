"""Point 122: fits of a box into another one."""

import random
import unittest
from itertools import permutations, product

from allcalls.boxes import Box, beside, crossed, full, plain
from allcalls.breaks import fewest_breaking
from allcalls.dooms import doom, is_doom, least_moves
from allcalls.errors import BadBox, BadDoom, BadFit, BadFrame, BadKeeping, BadMoves, TooMany
from allcalls.fits import doom_back, first_fit, fitted_frame, fitted_keeping, is_fit
from allcalls.frames import greatest_loads, is_frame, is_standing, standings
from allcalls.hunts import fewest_trials
from allcalls.keepings import greatest_keeping, is_keeping
from allcalls.likes import turns
from tests.helpers import (WRONG, any_values, anew, ascending_dict, every_standing, game_of, listed, pairs_of, ranks_of,
                           refuse, some_box, some_frame, too_many, untrue)
from tests.test_alikes import asking_goes, switch_goes, way_goes
from tests.test_frames import tree_box
from tests.test_keepings import EVERY

A = ((0, 0), (1, 0))
B = ((0, 1), (1, 1))
C = ((0, 0), (1, 1))
WANT = ("want", (0, 1))


def every_pair(one, other):
    """All pairs of a tuple of different sides and a tuple of tuples of different tracks."""
    rows = list(permutations(range(other.tracks), one.tracks))
    return [(sides, row) for sides in permutations(range(other.sides), one.sides)
            for row in product(rows, repeat=one.sides)]


def every_fit(one, other):
    return [pair for pair in every_pair(one, other)
            if all(switch_goes(pair, switch) in other.switches for switch in one.switches)]


def load_goes(one, other, fit, load):
    """The load that has between two sides what the load has between the two that go to them, and else nothing."""
    between = {frozenset((fit[0][a], fit[0][b])): number for (a, b), number in zip(pairs_of(one.sides), load)}
    return tuple(between.get(frozenset(pair), 0) for pair in pairs_of(other.sides))


def some_fits(seed, many):
    """Boxes, greater ones, and some fit: where some switches of the greater box go back to, the less one has them."""
    rnd = random.Random(seed)
    done = 0
    while done < many:
        sides, tracks = rnd.choice([(2, 1), (2, 2), (3, 1), (3, 2), (4, 1), (2, 3)])
        wide = rnd.randint(sides, 4)
        deep = rnd.randint(tracks, 3)
        other = some_box(rnd, wide, deep, 9)
        fit = (tuple(rnd.sample(range(wide), sides)), tuple(tuple(rnd.sample(range(deep), tracks))
                                                            for _ in range(sides)))
        chosen = tuple(switch for switch in full(sides, tracks).switches
                       if switch_goes(fit, switch) in other.switches and rnd.random() < 0.8)
        if len(every_pair(Box(sides, tracks, chosen), other)) <= 1500:
            done += 1
            yield rnd, Box(sides, tracks, chosen), other, fit


class Fits(unittest.TestCase):
    def test_small(self):
        one, other = plain(2, 1), Box(3, 2, (((0, 1), (2, 0)), ((1, 0), (2, 0))))
        self.assertEqual(first_fit(one, other), ((0, 2), ((1,), (0,))))
        for fit in (((2, 0), ((0,), (1,))), ((1, 2), ((0,), (0,))), ((2, 1), ((0,), (0,)))):
            self.assertIs(is_fit(one, other, fit), True)
        for fit in (((0, 2), ((0,), (0,))), ((0, 1), ((1,), (0,))), ((1, 0), ((0,), (0,)))):
            self.assertIs(is_fit(one, other, fit), False)
        self.assertIsNone(first_fit(plain(2, 2), other))
        self.assertIsNone(first_fit(other, one))
        self.assertIsNone(first_fit(plain(2, 2), plain(2, 1)))
        self.assertIsNone(first_fit(Box(3, 1, ()), plain(2, 6)))
        self.assertIsNone(first_fit(Box(2, 2, ()), Box(5, 1, ())))
        self.assertEqual(first_fit(Box(2, 2, ()), Box(3, 2, ())), ((0, 1), ((0, 1), (0, 1))))
        self.assertEqual(fitted_frame(one, other, ((2, 0), ((0,), (1,))), ((1,),)), ((0, 1, 0),))

    def test_some_fits(self):
        found = [0, 0]
        for rnd, one, other, fit in some_fits(122, 60):
            self.assertIs(is_fit(one, other, fit), True)
            for box in (one, some_box(rnd, one.sides, one.tracks, 4)):
                every = every_fit(box, other)
                self.assertEqual(first_fit(box, other), every[0] if every else None)
                found[bool(every)] += 1
                for thing in rnd.sample(every_pair(box, other), min(10, len(every_pair(box, other)))):
                    self.assertIs(is_fit(box, other, thing), thing in every)
        self.assertGreater(min(found), 10)

    def test_is_fit(self):
        one, other = plain(2, 2), full(3, 3)
        right = ((2, 0), ((1, 0), (0, 2)))
        self.assertIs(is_fit(one, other, right), True)
        wrong = [(), right + ((),), list(right), (right[0],), ((2, 2), right[1]), ((2, 3), right[1]), ((2,), right[1]),
                 ((2, 0, 1), right[1]), ((-1, 0), right[1]), (right[0], ((1, 0),)), (right[0], ((1, 1), (0, 2))),
                 (right[0], ((1, 0), (0, 3))), (right[0], ((1, 0), (0,))), (right[0], ((1, 0), (0, 2), (0, 1))),
                 (right[0], ((1, 0, 2), (0, 2))), (right[0], ((-1, 0), (0, 2))), (right[0], None), right[::-1]]
        for thing in wrong + untrue(right) + listed(right) + any_values():
            self.assertIs(is_fit(one, other, thing), False, thing)
        # Without switches any different sides and tracks do, but nothing else.
        none, wide = Box(2, 2, ()), Box(3, 3, ())
        self.assertIs(is_fit(none, wide, right), True)
        for thing in wrong + untrue(right) + listed(right) + any_values():
            self.assertIs(is_fit(none, wide, thing), False, thing)
        self.assertIs(is_fit(one, plain(3, 3), right), False)
        self.assertIs(is_fit(one, plain(3, 3), ((2, 0), ((1, 0), (1, 0)))), True)

    def test_facts(self):
        rnd = random.Random(1220)
        for _ in range(25):
            sides, tracks = rnd.choice([(2, 2), (3, 1), (3, 2), (2, 3), (4, 1)])
            one = some_box(rnd, sides, tracks, 6)
            more = Box(sides, tracks, tuple(sorted(set(one.switches + some_box(rnd, sides, tracks, 3).switches))))
            own = (tuple(range(sides)), (tuple(range(tracks)),) * sides)
            self.assertEqual(first_fit(one, more), own)
            self.assertEqual(first_fit(one, beside(one, some_box(rnd, sides, 1, 2))), own)
            self.assertIs(is_fit(one, beside(plain(sides, 1), one),
                                 (own[0], (tuple(range(1, tracks + 1)),) * sides)), True)
            other = rnd.choice([one, more, some_box(rnd, sides, tracks, 6)])
            if len(other.switches) == len(one.switches):
                self.assertEqual(turns(one, other), every_fit(one, other))
            if first_fit(one, other) is not None:
                self.assertLessEqual(len(one.switches), len(other.switches))

    def test_limits(self):
        # Into 5 sides with 5 tracks two sides go in 20 ways, and a track of each in 25; two tracks in 400, three in 3600.
        other = full(5, 5)
        self.assertEqual(first_fit(plain(2, 2), other), ((0, 1), ((0, 1), (0, 1))))
        too_many(self, 20000, first_fit, plain(2, 3), other)
        self.assertEqual(first_fit(plain(3, 1), full(5, 6)), ((0, 1, 2), ((0,), (0,), (0,))))
        too_many(self, 20000, first_fit, plain(4, 1), full(5, 6))
        self.assertEqual(first_fit(plain(4, 1), full(5, 3)), ((0, 1, 2, 3), ((0,),) * 4))
        too_many(self, 20000, first_fit, full(2, 5), full(2, 6))
        # Where there is no such pair at all, there is no fit.
        self.assertIsNone(first_fit(plain(2, 6), full(5, 5)))
        self.assertIsNone(first_fit(full(5, 5), full(4, 6)))
        # Others than first_fit tell at once.
        self.assertIs(is_fit(full(2, 5), full(2, 6), ((0, 1), ((0, 1, 2, 3, 4), (5, 4, 3, 2, 1)))), True)


class Carried(unittest.TestCase):
    def test_frames(self):
        for rnd, one, other, fit in some_fits(123, 60):
            frame = some_frame(rnd, one.sides, 2, 3)
            found = fitted_frame(one, other, fit, frame)
            self.assertEqual(found, tuple(sorted(load_goes(one, other, fit, load) for load in frame)))
            self.assertIs(is_frame(other.sides, found), True)
            for way in rnd.sample(every_standing(one, frame), min(4, len(every_standing(one, frame)))):
                self.assertIs(is_standing(other, found, way_goes(fit, way)), True)

    def test_keepings_and_dooms(self):
        done = [0, 0]
        for rnd, one, other, fit in some_fits(124, 250):
            frame = some_frame(rnd, one.sides, 2, 2)
            goal = fitted_frame(one, other, fit, frame)
            moves = rnd.choice([0, 0, 1, 2])
            keeping = greatest_keeping(one, frame, moves, ())
            if keeping is not None:
                done[0] += 1
                found = fitted_keeping(one, other, fit, frame, moves, keeping)
                self.assertEqual(found, tuple(sorted(way_goes(fit, way) for way in keeping)))
                self.assertIs(is_keeping(other, goal, moves, (), found), True)
                self.assertIsNotNone(greatest_keeping(other, goal, moves, ()))
            nodes = doom(other, goal, moves, ()) if len(every_standing(other, goal)) < 60 else None
            if nodes is not None:
                done[1] += 1
                found = doom_back(one, other, fit, frame, moves, nodes)
                self.assertIs(is_doom(one, frame, moves, (), found), True)
                ascending_dict(self, found)
                self.assertEqual(found, self.told_back(one, fit, frame, nodes))
        self.assertGreater(min(done), 40)

    def told_back(self, one, fit, frame, nodes):
        found = {}
        for way in every_standing(one, frame):
            if way_goes(fit, way) in nodes:
                rank, asked = nodes[way_goes(fit, way)]
                wants = [("want", pair) for pair in pairs_of(one.sides)]
                back = [asking for asking in wants + [("end", switch) for switch in way]
                        if asking_goes(fit, asking) == asked]
                self.assertEqual(len(back), 1)
                found[way] = (rank, back[0])
        return found

    def test_numbers(self):
        for rnd, one, other, fit in some_fits(125, 60):
            frame = some_frame(rnd, one.sides, 2, 2)
            goal = fitted_frame(one, other, fit, frame)
            if len(every_standing(other, goal)) > 60:
                continue
            less, more = least_moves(one, frame), least_moves(other, goal)
            if less is not None:
                self.assertLessEqual(more, less)
            for telling in ("whole", "each"):
                self.assertGreaterEqual(fewest_trials(other, goal, telling), fewest_trials(one, frame, telling))
            for load, gone in zip(frame, [load_goes(one, other, fit, load) for load in frame]):
                few, many = fewest_breaking(one, load), fewest_breaking(other, gone)
                if few is not None:
                    self.assertGreaterEqual(len(many), len(few))

    def test_small(self):
        one, other = plain(2, 1), plain(2, 2)
        fit, frame = ((1, 0), ((1,), (1,))), ((2,),)
        box = Box(2, 2, (A, C, B))
        self.assertIs(is_doom(plain(2, 1), frame, 0, (), {(): (1, WANT), (A,): (0, WANT)}), True)
        self.assertEqual(fitted_keeping(one, other, fit, ((1,),), 0, ((), (A,))), ((), (B,)))
        # Of both fits of one track, that standing goes back which goes to a key.
        frame = ((3,),)
        nodes = {(): (3, WANT), (A,): (2, WANT), (A, B): (0, WANT), (B,): (1, WANT), (C,): (0, WANT)}
        self.assertIs(is_doom(box, frame, 0, (), nodes), True)
        self.assertEqual(doom_back(one, box, fit, frame, 0, nodes), {(): (3, WANT), (A,): (1, WANT)})
        self.assertEqual(doom_back(one, box, ((0, 1), ((0,), (1,))), frame, 0, nodes), {(): (3, WANT), (A,): (0, WANT)})
        anew(self, doom_back, one, box, fit, frame, 0, nodes)

    def test_ends_go_back(self):
        # Example B of the document, where nothing is kept without moves: what is given up has to be asked for.
        x, u, y, v = ((0, 0), (1, 0)), ((0, 0), (2, 0)), ((0, 1), (1, 1)), ((1, 1), (2, 0))
        one, frame = Box(3, 2, (x, u, y, v)), ((1, 0, 1), (1, 1, 0))
        fit = ((1, 3, 0), ((1, 2), (0, 2), (1, 0)))
        other = Box(4, 3, tuple(sorted([way_goes(fit, (switch,))[0] for switch in one.switches] + [((2, 0), (3, 1))])))
        nodes = doom(other, fitted_frame(one, other, fit, frame), 0, ())
        found = doom_back(one, other, fit, frame, 0, nodes)
        self.assertEqual(found, doom(one, frame, 0, ()))
        self.assertIn(("end", u), [asked for _, asked in found.values()])

    def test_refusals(self):
        one, other = plain(2, 1), plain(2, 2)
        fit, frame = ((1, 0), ((1,), (1,))), ((1,),)
        fits = [((1, 0), ((1,), (0,))), ((1, 1), ((1,), (1,))), list(fit), ((1, 0), ((1,),)), ((0, 1), ((0, 1), (0, 1)))]
        fits += untrue(fit) + listed(fit)
        frames = [((1, 1, 1),), [(1,)], ((1,), (2,)), ()] + untrue(frame)
        boxes = [(2, 1, one.switches)]
        refuse(self, is_fit, [one, other, None], [BadBox, BadBox, None], {0: boxes, 1: boxes})
        refuse(self, first_fit, [one, other], [BadBox, BadBox], {0: boxes, 1: boxes})
        refuse(self, fitted_frame, [one, other, fit, frame], [BadBox, BadBox, BadFit, BadFrame], {2: fits, 3: frames})
        keeping = ((), (A,))
        keepings = [(), ((),), list(keeping), keeping[::-1], ((), (B,)), keeping + ((B,),), keeping * 2]
        keepings += untrue(keeping) + listed(keeping)
        refuse(self, fitted_keeping, [one, other, fit, frame, 0, keeping],
               [BadBox, BadBox, BadFit, BadFrame, BadMoves, BadKeeping], {2: fits, 3: frames, 4: [21, "0"], 5: keepings})
        frame = ((3,),)
        right = doom(other, frame, 0, ())
        dooms = [{}, list(right.items()), {way: right[way] for way in list(right)[1:]}, {(): right[()]},
                 {**right, (C,): (0, WANT)}, {way: (0, asked) for way, (_, asked) in right.items()},
                 {(): (1, WANT), (A,): (0, WANT)}]
        dooms += untrue(right) + listed(right)
        refuse(self, doom_back, [one, other, fit, frame, 0, right],
               [BadBox, BadBox, BadFit, BadFrame, BadMoves, BadDoom], {2: fits, 3: frames, 4: [21, "0"], 5: dooms})

    def test_too_many_standings(self):
        own = (tuple(range(5)), (tuple(range(6)),) * 5)
        # Between the sides 0 and 1 these boxes have no switch at all.
        nodes = {(): (0, WANT)}
        self.assertEqual(doom_back(tree_box(5000), tree_box(5000), own, EVERY, 0, nodes), nodes)
        too_many(self, 5000, doom_back, tree_box(5001), tree_box(5001), own, EVERY, 0, nodes)
        with self.assertRaises(BadDoom):
            doom_back(tree_box(5001), tree_box(5001), own, EVERY, 0, {})
        with self.assertRaises(BadKeeping):
            fitted_keeping(tree_box(5001), tree_box(5001), own, EVERY, 0, ((),))
        zeros = ((0,) * 10,)
        self.assertEqual(fitted_keeping(tree_box(5001), tree_box(5001), own, zeros, 0, ((),)), ((),))


if __name__ == "__main__":
    unittest.main()
