"""Point 60: strict boxes and blocking trees."""

import random
import unittest

from allcalls.boxes import Box, crossed, full, plain
from allcalls.dooms import least_moves
from allcalls.errors import BadBox, BadFrame, BadPair
from allcalls.frames import greatest_loads, is_standing, standings
from allcalls.stricts import blocking_tree, first_stuck, is_blocking_tree, is_stuck
from tests.helpers import (any_values, anew, count_load, every_asking, every_standing, inside, listed, pairs_of, refuse,
                           some_box, some_frame, too_many, untrue, with_one)
from tests.test_frames import tree_box
from tests.test_keepings import EVERY, RING

A = ((0, 0), (1, 0))
B = ((0, 1), (1, 1))
C = ((0, 0), (2, 0))
SPLIT = (((0, 0), (1, 0)), ((2, 1), (3, 1)))
PAIR = (0, 1)


def is_free(way, switch):
    return not any(set(switch) & set(wire) for wire in way)


def stuck_pairs(box, frame, way):
    """The pairs for which a standing is stuck, by the document's words."""
    return [pair for word, pair in every_asking(box, frame, way) if word == "want" and not any(
        is_free(way, (low, high)) for low, high in box.switches if (low[0], high[0]) == pair)]


def is_tree(box, frame, pair, way, thing):
    """Whether a value in the form of a tree is one, by the document's words."""
    if thing == ("full",):
        return not inside(frame, with_one(box.sides, count_load(box.sides, way), pair))
    _, switch, trees = thing
    hits = [other for other in box.switches if set(other) & set(switch) and is_free(way, other)]
    return (switch[0][0], switch[1][0]) == pair and is_free(way, switch) and list(trees) == hits and all(
        is_tree(box, frame, pair, tuple(sorted(way + (hit,))), trees[hit]) for hit in hits)


def nodes_of(tree, path=()):
    """All pairs of a node of a blocking tree and the switches that lead to it."""
    found = [(path, tree)]
    if len(tree) == 3:
        for hit in tree[2]:
            found += nodes_of(tree[2][hit], path + (hit,))
    return found


def put(tree, path, node):
    """The tree with this node at the end of the path."""
    if not path:
        return node
    return (tree[0], tree[1], {hit: put(other, path[1:], node) if hit == path[0] else other
                               for hit, other in tree[2].items()})


class Stuck(unittest.TestCase):
    def test_example(self):
        box = plain(4, 2)
        self.assertEqual(first_stuck(box, RING), (SPLIT, (0, 3)))
        self.assertIs(is_stuck(box, RING, (SPLIT, (0, 3))), True)
        self.assertIs(is_stuck(box, RING, (SPLIT, (0, 1))), False)

    def test_some_boxes(self):
        rnd = random.Random(60)
        strict = 0
        for _ in range(150):
            box = some_box(rnd, rnd.randint(2, 4), rnd.randint(1, 3), 9)
            frame = some_frame(rnd, box.sides, rnd.choice([1, 2]), 3)
            stuck = {way: stuck_pairs(box, frame, way) for way in every_standing(box, frame)}
            found = [(len(way), way, pairs[0]) for way, pairs in stuck.items() if pairs]
            self.assertEqual(first_stuck(box, frame), min(found)[1:] if found else None)
            strict += not found
            for way, pairs in stuck.items():
                for pair in pairs_of(box.sides):
                    self.assertIs(is_stuck(box, frame, (way, pair)), pair in pairs)
            for pair in pairs_of(box.sides):
                tree = blocking_tree(box, frame, pair)
                self.assertEqual(tree is None, any(pair in pairs for pairs in stuck.values()))
                if tree is not None:
                    self.assertTrue(is_tree(box, frame, pair, (), tree))
                    self.assertIs(is_blocking_tree(box, frame, pair, tree), True)
                    self.spoiled(rnd, box, frame, pair, tree)
            if not found:
                self.assertEqual(least_moves(box, frame), 0)
        self.assertGreater(strict, 15)

    def spoiled(self, rnd, box, frame, pair, tree):
        """A tree with another node somewhere is judged as the words say."""
        path, node = rnd.choice(nodes_of(tree))
        others = [("full",)]
        if len(node) == 3:
            hit = rnd.choice(list(node[2]))
            others += [(node[0], rnd.choice(box.switches), node[2]), (node[0], hit, node[2]),
                       (node[0], node[1], {key: one for key, one in node[2].items() if key != hit}),
                       (node[0], node[1], {**node[2], rnd.choice(box.switches): ("full",)})]
            self.assertIs(is_blocking_tree(box, frame, pair, put(tree, path, node[1:])), False)
        for other in others:
            thing = put(tree, path, other)
            self.assertIs(is_blocking_tree(box, frame, pair, thing), is_tree(box, frame, pair, (), ordered(thing)))

    def test_fewest_wires_come_first(self):
        # ((0, 0), (1, 0)) and ((0, 1), (1, 1)) are stuck for 0 2, each by itself; the greater one comes later.
        box = Box(3, 2, (A, C, B))
        frame = ((1, 1, 0),)
        self.assertEqual(first_stuck(box, frame), ((A,), (0, 2)))
        ahead = Box(3, 3, (A, B, ((0, 2), (2, 2))))
        self.assertEqual(first_stuck(ahead, ((1, 1, 1),)), ((), (1, 2)))
        self.assertEqual(first_stuck(Box(2, 1, ()), ((1,),)), ((), PAIR))
        self.assertIsNone(first_stuck(Box(2, 1, ()), ((0,),)))

    def test_is_stuck(self):
        right = (SPLIT, (0, 3))
        wrong = [SPLIT, [SPLIT, (0, 3)], (SPLIT, (3, 0)), (SPLIT, [0, 3]), (SPLIT[::-1], (0, 3)), ((), (0, 3)),
                 (SPLIT, (0, 3), 0), (SPLIT,), (SPLIT, (0, 4)), (SPLIT, ("want", (0, 3))), (SPLIT, None),
                 (SPLIT, (0, 2)), ((C,), (0, 3)), {SPLIT: (0, 3)}]
        for thing in wrong + untrue(right) + listed(right) + any_values():
            self.assertIs(is_stuck(plain(4, 2), RING, thing), False, thing)
        # Without any switch left nothing is stuck for what is not wanted.
        self.assertIs(is_stuck(plain(2, 1), ((1,),), ((A,), PAIR)), False)
        self.assertIs(is_stuck(plain(2, 1), ((2,),), ((A,), PAIR)), True)

    def test_refusals(self):
        box, frame = plain(2, 2), ((2,),)
        refuse(self, first_stuck, [box, frame], [BadBox, BadFrame], {1: [((1, 1, 1),), [(1,)]]})
        refuse(self, is_stuck, [box, frame, None], [BadBox, BadFrame, None])
        wrong = {2: [(1, 0), (0, 0), (0, 2), [0, 1], (0, 1, 2), (-1, 0), (0,), A] + untrue(PAIR)}
        refuse(self, blocking_tree, [box, frame, PAIR], [BadBox, BadFrame, BadPair], wrong)
        refuse(self, is_blocking_tree, [box, frame, PAIR, None], [BadBox, BadFrame, BadPair, None], wrong)

    def test_too_many(self):
        just, more = tree_box(5000), tree_box(5001)
        # No switch lies between 0 and 1, so () is stuck for it.
        self.assertEqual(first_stuck(just, EVERY), ((), (0, 1)))
        self.assertIsNone(blocking_tree(just, EVERY, (0, 1)))
        too_many(self, 5000, first_stuck, more, EVERY)
        too_many(self, 5000, blocking_tree, more, EVERY, (0, 1))
        with self.assertRaises(BadPair):
            blocking_tree(more, EVERY, (1, 0))
        self.assertIs(is_stuck(more, EVERY, ((), (0, 1))), True)
        self.assertIs(is_blocking_tree(more, EVERY, (0, 1), ("full",)), False)
        great = full(5, 6)
        self.assertIs(is_stuck(great, EVERY, ((), (0, 1))), False)
        self.assertIs(is_blocking_tree(great, ((0,) * 9 + (6,),), (0, 1), ("full",)), True)


def ordered(tree):
    """The tree with ascending keys."""
    if len(tree) != 3:
        return tree
    return (tree[0], tree[1], {hit: ordered(tree[2][hit]) for hit in sorted(tree[2])})


class Trees(unittest.TestCase):
    def test_small(self):
        box = plain(2, 2)
        self.assertEqual(blocking_tree(box, ((0,),), PAIR), ("full",))
        self.assertIn(blocking_tree(box, ((1,),), PAIR),
                      [("part", A, {A: ("full",)}), ("part", B, {B: ("full",)})])
        both = ("part", A, {A: ("part", B, {B: ("full",)})})
        self.assertIs(is_blocking_tree(box, ((2,),), PAIR, both), True)
        self.assertIsNone(blocking_tree(box, ((3,),), PAIR))
        anew(self, blocking_tree, full(3, 2), greatest_loads(3, 2), (0, 2))

    def test_wrong_trees(self):
        box, frame = plain(3, 2), ((1, 1, 0),)
        one, two = ((1, 0), (2, 0)), ((0, 1), (1, 1))
        self.assertIsNone(blocking_tree(plain(3, 1), frame, PAIR))
        right = blocking_tree(box, frame, PAIR)
        self.assertIs(is_blocking_tree(box, frame, PAIR, right), True)
        self.assertIs(is_blocking_tree(box, frame, (0, 2), right), False)
        self.assertIs(is_blocking_tree(box, frame, (1, 2), ("full",)), True)
        wrong = [("full",), ("full", A, {}), ("part",), ("part", A), ("part", A, {}), ["part", A, right[2]],
                 ("part", C, right[2]), ("part", one, right[2]), ("part", A, list(right[2].items())),
                 ("part", list(A), right[2]), ("part", A, right[2], 0), (True, A, right[2]), ("part", None, right[2]),
                 ("part", B if right[1] == A else A, right[2]),
                 ("part", right[1], {**right[2], two: ("full",)}), ("part", right[1], {**right[2], 0: ("full",)}),
                 ("part", right[1], {hit: ("full",) for hit in right[2]}), ("part", right[1], {hit: None for hit in right[2]})]
        for thing in wrong + untrue(right) + listed(right) + any_values():
            self.assertIs(is_blocking_tree(box, frame, PAIR, thing), False, thing)

    def test_the_way_may_go_beyond_the_frame(self):
        # 1 2 is never of the frame, but a switch between them may be what stands in the way.
        box, frame = plain(3, 2), ((1, 0, 0),)
        tree = blocking_tree(box, frame, PAIR)
        self.assertIs(is_blocking_tree(box, frame, PAIR, tree), True)
        for hit, other in tree[2].items():
            self.assertEqual(other, ("full",), hit)

    def test_facts(self):
        for sides, tracks in ((2, 3), (3, 2), (3, 3), (4, 2)):
            box, frame = full(sides, tracks), greatest_loads(sides, tracks)
            self.assertIsNone(first_stuck(box, frame))
            for pair in pairs_of(sides):
                self.assertIs(is_blocking_tree(box, frame, pair, blocking_tree(box, frame, pair)), True)
        box, frame = crossed(3, 3), greatest_loads(3, 3)
        way, pair = first_stuck(box, frame)
        self.assertTrue(is_standing(box, frame, way))
        self.assertIsNone(blocking_tree(box, frame, pair))
        # A switch more makes more standings, and may make one of them stuck.
        strict, more = Box(3, 2, (A, ((0, 1), (2, 0)))), Box(3, 2, (A, C, ((0, 1), (2, 0))))
        self.assertIsNone(first_stuck(strict, ((1, 1, 0),)))
        self.assertEqual(first_stuck(more, ((1, 1, 0),)), ((C,), PAIR))
        self.assertLess(len(standings(strict, ((1, 1, 0),))), len(standings(more, ((1, 1, 0),))))


if __name__ == "__main__":
    unittest.main()
