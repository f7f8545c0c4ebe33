"""Points 61 and 62: rules, and the grade of a box and a frame."""

import random
import unittest
from itertools import permutations

from allcalls.boxes import Box, beside, crossed, full, plain, without
from allcalls.dooms import least_moves
from allcalls.errors import BadBox, BadFrame, BadRule
from allcalls.frames import greatest_loads, standings
from allcalls.keepings import is_keeping
from allcalls.loads import box_frame, way_for
from allcalls.rules import good_rule, grade, is_rule_paper, rule_fails, rule_standings
from allcalls.stricts import first_stuck
from tests.helpers import (any_values, anew, count_load, every_asking, every_load, every_standing, every_way, inside,
                           listed, refuse, some_box, some_frame, too_many, untrue)
from tests.test_frames import tree_box
from tests.test_keepings import EVERY, RING
from tests.test_stricts import SPLIT, is_free

A = ((0, 0), (1, 0))
B = ((0, 1), (1, 1))
C = ((0, 0), (2, 0))


def ruled(rule, way, asking):
    """What an asking leads to by a rule; None if the standing is stuck for it."""
    if asking[0] == "end":
        return tuple(switch for switch in way if switch != asking[1])
    free = [switch for switch in rule if (switch[0][0], switch[1][0]) == asking[1] and is_free(way, switch)]
    return tuple(sorted(way + (free[0],))) if free else None


def first_row(box, frame, rule):
    """The first shortest row by which the rule fails: all rows of one length at a time; None."""
    rows = {(): ()}
    seen = set()
    while rows:
        # From each standing only the first shortest row goes on.
        failing = [list(row) + [asking] for row, way in rows.items() for asking in every_asking(box, frame, way)
                   if ruled(rule, way, asking) is None]
        if failing:
            return min(failing)
        seen |= set(rows.values())
        after = {}
        for row, way in sorted(rows.items()):
            for asking in every_asking(box, frame, way):
                other = ruled(rule, way, asking)
                if other not in seen and other not in after.values():
                    after[row + (asking,)] = other
        rows = after
    return None


def all_come_to(box, frame, rule):
    """All standings that the rule comes to."""
    found = {()}
    while True:
        more = {ruled(rule, way, asking) for way in found for asking in every_asking(box, frame, way)} - {None} - found
        if not more:
            return sorted(found)
        found |= more


def is_paper(box, frame, rule, thing):
    return list(thing) == sorted(set(thing)) and () in thing and all(
        ruled(rule, way, asking) in thing for way in thing for asking in every_asking(box, frame, way))


class Rules(unittest.TestCase):
    def test_example(self):
        box = plain(4, 2)
        rule = tuple(sorted(box.switches, key=lambda switch: (switch[0][1], switch)))
        row = [("want", (0, 1)), ("want", (0, 3)), ("end", ((0, 0), (1, 0))), ("want", (1, 2)), ("want", (0, 1))]
        self.assertEqual(rule_fails(box, RING, rule), row)
        for other in (rule[:6][::-1] + rule[6:], rule[:6] + rule[6:][::-1]):
            self.assertEqual(rule_fails(box, RING, other), row)
        self.assertEqual(first_stuck(box, RING), (SPLIT, (0, 3)))
        self.assertEqual(grade(box, RING), ("wise", 0))
        anew(self, rule_fails, box, RING, rule)
        anew(self, rule_standings, box, RING, rule)

    def test_some_rules(self):
        rnd = random.Random(61)
        failed = 0
        for _ in range(120):
            box = some_box(rnd, rnd.randint(2, 4), rnd.randint(1, 3), 8)
            frame = some_frame(rnd, box.sides, rnd.choice([1, 2]), 3)
            rule = tuple(rnd.sample(box.switches, len(box.switches)))
            come = rule_standings(box, frame, rule)
            self.assertEqual(come, all_come_to(box, frame, rule))
            self.assertLessEqual(set(come), set(standings(box, frame)))
            row = rule_fails(box, frame, rule)
            self.assertEqual(row, first_row(box, frame, rule))
            failed += row is not None
            self.assertIs(is_rule_paper(box, frame, rule, tuple(come)), row is None)
            if row is None:
                self.assertIs(is_keeping(box, frame, 0, (), tuple(come)), True)
            else:
                self.assertIsNotNone(first_stuck(box, frame))
            for _ in range(5):
                ways = come if rnd.random() < 0.6 else every_standing(box, frame)
                thing = tuple(sorted(rnd.sample(ways, max(1, len(ways) - rnd.randint(0, 3)))))
                self.assertIs(is_rule_paper(box, frame, rule, thing), is_paper(box, frame, rule, thing))
        self.assertGreater(failed, 20)
        self.assertLess(failed, 100)

    def test_longer_rows(self):
        rnd = random.Random(62)
        lengths = set()
        for _ in range(60):
            rule = tuple(rnd.sample(plain(4, 2).switches, 12))
            row = rule_fails(plain(4, 2), RING, rule)
            self.assertEqual(row, first_row(plain(4, 2), RING, rule))
            lengths.add(len(row) if row else 0)
        self.assertGreater(len(lengths), 1)

    def test_small(self):
        box = plain(2, 2)
        self.assertEqual(rule_standings(box, ((1,),), (A, B)), [(), (A,)])
        self.assertEqual(rule_standings(box, ((1,),), (B, A)), [(), (B,)])
        self.assertEqual(rule_standings(box, ((2,),), (B, A)), [(), (A,), (A, B), (B,)])
        self.assertEqual(rule_standings(Box(2, 1, ()), ((1,),), ()), [()])
        self.assertEqual(rule_fails(Box(2, 1, ()), ((1,),), ()), [("want", (0, 1))])
        self.assertEqual(rule_fails(plain(2, 1), ((2,),), (A,)), [("want", (0, 1)), ("want", (0, 1))])
        self.assertIsNone(rule_fails(Box(2, 1, ()), ((0,),), ()))
        # From a standing that is stuck for one pair one goes on by its other askings.
        self.assertEqual(rule_standings(plain(3, 1), ((1, 1, 0),), plain(3, 1).switches), [(), (A,), (C,)])

    def test_is_rule_paper(self):
        box, frame = plain(2, 3), ((2,),)
        last = ((0, 2), (1, 2))
        right = ((), (A,), (A, B), (B,))
        self.assertIs(is_rule_paper(box, frame, (A, B, last), right), True)
        self.assertIs(is_rule_paper(box, frame, (B, A, last), right), True)
        self.assertIs(is_rule_paper(box, frame, (A, last, B), right), False)
        self.assertIs(is_rule_paper(plain(2, 1), ((2,),), (A,), ((), (A,))), False)
        wrong = [right[1:], right[:3], list(right), right[::-1], right + (right[3],), right + (None,), (), {}, None,
                 {way: 0 for way in right}, ((),), right + ((last,),), ((), (A,), (B, A), (B,))]
        for thing in wrong + untrue(right) + listed(right) + any_values():
            self.assertIs(is_rule_paper(box, frame, (A, B, last), thing), False, thing)
        # More than is come to does no harm, if it is closed.
        self.assertIs(is_rule_paper(box, ((1,),), (A, B, last), ((), (A,))), True)
        self.assertIs(is_rule_paper(box, ((1,),), (A, B, last), ((), (A,), (B,))), True)

    def test_refusals(self):
        box, frame = plain(2, 2), ((2,),)
        rule = (B, A)
        wrong = {2: [(), (A,), (A, A), (A, B, A), [A, B], (A, C), (A, None), (A, ((0, 0), (1, 1))), {A: 0, B: 1}]
                 + untrue(rule) + listed(rule)}
        for function in (rule_standings, rule_fails):
            refuse(self, function, [box, frame, rule], [BadBox, BadFrame, BadRule], wrong)
        refuse(self, is_rule_paper, [box, frame, rule, None], [BadBox, BadFrame, BadRule, None], wrong)
        for function in (good_rule, grade):
            refuse(self, function, [box, frame], [BadBox, BadFrame], {1: [((1, 1, 1),), [(1,)]]})

    def test_too_many(self):
        just, more = tree_box(5000), tree_box(5001)
        for function in (rule_standings, rule_fails):
            function(just, EVERY, just.switches)
            too_many(self, 5000, function, more, EVERY, more.switches)
            with self.assertRaises(BadRule):
                function(more, EVERY, ())
        self.assertEqual(grade(just, EVERY), ("never", (0,) * 9 + (1,)))
        too_many(self, 5000, grade, more, EVERY)
        self.assertIs(is_rule_paper(more, EVERY, more.switches, ((),)), False)
        # All standings count, though the rule comes to few of them.
        box, frame = full(2, 6), ((4,),)
        too_many(self, 5000, standings, box, frame)
        too_many(self, 5000, rule_standings, box, frame, box.switches)
        great = Box(5, 6, full(5, 6).switches[:300])
        self.assertIs(is_rule_paper(great, ((1,) + (0,) * 9,), great.switches, ((), (A,))), True)


class Good(unittest.TestCase):
    def test_small(self):
        self.assertEqual(good_rule(plain(2, 2), ((2,),)), (A, B))
        self.assertEqual(good_rule(Box(2, 1, ()), ((0,),)), ())
        self.assertIsNone(good_rule(Box(2, 1, ()), ((1,),)))
        self.assertIsNone(good_rule(plain(3, 1), ((1, 1, 0),)))
        self.assertIsNone(good_rule(plain(3, 2), greatest_loads(3, 2)))

    def test_some_boxes(self):
        rnd = random.Random(63)
        seen = set()
        for _ in range(60):
            box = some_box(rnd, rnd.randint(2, 3), rnd.randint(1, 3), 5)
            frame = box_frame(box) if rnd.random() < 0.6 else some_frame(rnd, box.sides, 1, 2)
            good = [rule for rule in permutations(box.switches) if first_row(box, frame, rule) is None]
            self.assertEqual(good_rule(box, frame), good[0] if good else None)
            seen.add((bool(good), bool(good) and good[0] == box.switches))
            if good:
                self.assertEqual(least_moves(box, frame), 0)
            if first_stuck(box, frame) is None:
                self.assertTrue(good)
        self.assertEqual(seen, {(False, False), (True, True), (True, False)})

    def test_too_many_switches(self):
        self.assertIsNotNone(good_rule(plain(2, 6), ((6,),)))
        too_many(self, 6, good_rule, Box(3, 3, plain(3, 3).switches[:7]), ((0, 0, 0),))
        too_many(self, 6, good_rule, full(5, 6), EVERY)
        with self.assertRaises(BadFrame):
            good_rule(full(5, 6), ())


class Grades(unittest.TestCase):
    def test_grades(self):
        self.assertEqual(grade(plain(2, 2), ((2,),)), ("strict",))
        self.assertEqual(grade(full(3, 2), greatest_loads(3, 2)), ("strict",))
        self.assertEqual(grade(crossed(3, 3), greatest_loads(3, 3)), ("wise", 1))
        self.assertEqual(grade(plain(3, 2), greatest_loads(3, 2)), ("never", (1, 1, 1)))
        self.assertEqual(grade(plain(3, 1), ((1, 1, 1),)), ("never", (0, 1, 1)))
        self.assertEqual(grade(Box(3, 1, ()), ((99, 99, 99),)), ("never", (0, 0, 1)))
        self.assertEqual(grade(Box(5, 1, (A,)), ((99,) * 10,)), ("never", (0,) * 9 + (1,)))
        # The first one by its numbers, not by its sum.
        self.assertEqual(grade(plain(3, 2), ((0, 0, 3), (1, 1, 1))), ("never", (0, 0, 3)))
        # (0, 0, 2) has no way and comes before (1, 0, 0), which has a lesser sum.
        self.assertEqual(grade(Box(3, 1, (((1, 0), (2, 0)),)), ((1, 0, 2),)), ("never", (0, 0, 2)))

    def test_some_grades(self):
        rnd = random.Random(64)
        seen = set()
        for k in range(80):
            if k % 3:
                box = some_box(rnd, rnd.randint(2, 4), rnd.randint(1, 3), 9)
                frame = some_frame(rnd, box.sides, 2, 2)
            else:
                base = rnd.choice([crossed(3, 3), crossed(4, 2), plain(3, 3)])
                box = without(base, tuple(sorted(rnd.sample(base.switches, rnd.randint(0, 3)))))
                frame = box_frame(box)
            carried = {count_load(box.sides, way) for way in every_way(box)}
            never = [load for load in every_load(box.sides, 3) if inside(frame, load) and load not in carried]
            if first_stuck(box, frame) is None:
                told = ("strict",)
            elif never:
                told = ("never", never[0])
                self.assertIsNone(way_for(box, never[0]))
            else:
                told = ("wise", least_moves(box, frame))
            seen.add(told[0])
            self.assertEqual(grade(box, frame), told)
        self.assertEqual(seen, {"strict", "wise", "never"})

    def test_beside(self):
        box = beside(plain(3, 1), plain(3, 1))
        self.assertEqual(grade(box, ((1, 0, 0),)), ("strict",))
        self.assertEqual(grade(box, ((1, 1, 0),)), ("strict",))


if __name__ == "__main__":
    unittest.main()
