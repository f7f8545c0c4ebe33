"""Point 170: the fewest switches."""

import random
import unittest
from itertools import combinations

from allcalls.boxes import Box, full
from allcalls.errors import BadFrame, BadNumber, BadSides, BadSwitches, BadTracks, BadWish
from allcalls.fewest import fewest_switches, great_lots, is_short_tree, least_lots, meets, short_tree
from allcalls.frames import greatest_loads
from allcalls.keepings import greatest_keeping
from allcalls.wholes import missing
from tests.helpers import (any_values, anew, ascending_dict, count_load, deep, every_way, game_of, kept_of, listed, refuse, some_frame,
                           too_many, untrue)

A = ((0, 0), (1, 0))
B = ((0, 1), (1, 1))
C = ((0, 0), (1, 1))
D = ((0, 1), (1, 0))
TRADE = ((1, 1, 1), (2, 0, 0))
# The sides and tracks with at most 12 switches.
SIZES = [(2, 1), (2, 2), (2, 3), (3, 1), (3, 2), (4, 1), (5, 1)]
WISHES = [("loads",), ("live", 0), ("live", 1), ("live", 20)]


def meets_plainly(sides, tracks, frame, wish, switches):
    """Whether the box meets the wish, by the document's words."""
    box = Box(sides, tracks, switches)
    if wish == ("loads",):
        carried = [count_load(sides, way) for way in every_way(box)]
        return all(load in carried for load in frame)
    return kept_of(game_of(box, frame, wish[1]), ()) is not None


def meets_by_papers(sides, tracks, frame, wish, switches):
    """The same, by what has its own tests."""
    box = Box(sides, tracks, switches)
    if wish == ("loads",):
        return missing(box, frame) is None
    return greatest_keeping(box, frame, wish[1], ()) is not None


def every_lot(sides, tracks):
    switches = full(sides, tracks).switches
    return [lot for many in range(len(switches) + 1) for lot in combinations(switches, many)]


def met_lots(sides, tracks, frame, wish, judge):
    return [lot for lot in every_lot(sides, tracks) if judge(sides, tracks, frame, wish, lot)]


def least_of(met):
    known = set(met)
    return sorted(lot for lot in met if not any(lot[:k] + lot[k + 1:] in known for k in range(len(lot))))


def great_of(sides, tracks, met):
    every, known = full(sides, tracks).switches, set(met)
    return sorted(lot for lot in every_lot(sides, tracks) if lot not in known and not any(
        tuple(sorted(lot + (switch,))) not in known for switch in every if switch not in lot))


def judged_tree(sides, tracks, met, taken, number, thing):
    """Whether a value of the right form is a short tree."""
    every = set(full(sides, tracks).switches)

    def is_great(lot):
        return lot not in met and taken <= set(lot)

    if isinstance(thing, list):
        lacks = [every - set(lot) for lot in thing]
        return (all(map(is_great, thing)) and len(thing) >= number - len(taken)
                and all(one.isdisjoint(two) for one, two in combinations(lacks, 2)))
    great, trees = thing
    return is_great(great) and set(trees) == every - set(great) and all(
        judged_tree(sides, tracks, met, taken | {switch}, number, tree) for switch, tree in trees.items())


def some_wishes(seed, many, sizes):
    rnd = random.Random(seed)
    for _ in range(many):
        sides, tracks = rnd.choice(sizes)
        most = rnd.choice([1, 1, 2]) if tracks > 1 else 1
        yield rnd, sides, tracks, some_frame(rnd, sides, most, 3), rnd.choice(WISHES)


def spoiled_trees(rnd, thing, every):
    """Trees with something changed."""
    if isinstance(thing, list):
        rows = list(thing)
        kind = rnd.randrange(4)
        if kind == 0 and rows:
            rows.pop(rnd.randrange(len(rows)))
        elif kind == 1 and rows:
            rows.append(rnd.choice(rows))
        elif rows:
            k = rnd.randrange(len(rows))
            lot = set(rows[k])
            lot ^= {rnd.choice(every)}
            rows[k] = tuple(sorted(lot))
        else:
            rows = [tuple(every)]
        return rows
    great, trees = thing
    if rnd.random() < 0.3:
        return (tuple(sorted(set(great) ^ {rnd.choice(every)})), trees)
    if trees:
        key = rnd.choice(list(trees))
        if rnd.random() < 0.3:
            return (great, {one: tree for one, tree in trees.items() if one != key})
        return (great, {**trees, key: spoiled_trees(rnd, trees[key], every)})
    return (great, {every[0]: []})


class Wishes(unittest.TestCase):
    def test_small(self):
        frame = ((1,),)
        for wish in WISHES:
            self.assertIs(meets(2, 2, frame, wish, ()), False)
            self.assertIs(meets(2, 2, frame, wish, (A,)), True)
            self.assertEqual(least_lots(2, 2, frame, wish), [(A,), (C,), (D,), (B,)])
            self.assertEqual(great_lots(2, 2, frame, wish), [()])
            self.assertEqual(len(fewest_switches(2, 2, frame, wish)), 1)
            # No box of one track carries two wires; where nothing is asked for, nothing is needed.
            self.assertIsNone(fewest_switches(2, 1, ((2,),), wish))
            self.assertEqual(least_lots(2, 1, ((2,),), wish), [])
            self.assertEqual(great_lots(2, 1, ((2,),), wish), [(A,)])
            self.assertEqual(fewest_switches(2, 1, ((0,),), wish), ())
            self.assertEqual(least_lots(2, 1, ((0,),), wish), [()])
            self.assertEqual(great_lots(2, 1, ((0,),), wish), [])
            self.assertIsNone(fewest_switches(3, 2, ((99, 0, 0),), wish))
        self.assertEqual(least_lots(2, 2, ((2,),), ("live", 0)), [(A, B), (C, D)])
        self.assertEqual(great_lots(2, 2, ((2,),), ("live", 0)), [(A, C), (A, D), (C, B), (D, B)])
        self.assertEqual(len(fewest_switches(3, 2, TRADE, ("loads",))), 4)
        self.assertEqual(len(fewest_switches(3, 2, TRADE, ("live", 0))), 6)
        box = tuple(sorted([A, B, ((0, 1), (2, 0)), ((1, 1), (2, 1))]))
        self.assertEqual([meets(3, 2, TRADE, wish, box) for wish in WISHES], [True, False, True, True])

    def test_whole_tables(self):
        for _, sides, tracks, frame, wish in some_wishes(170, 60, [(2, 1), (2, 2), (3, 1), (4, 1)]):
            met = met_lots(sides, tracks, frame, wish, meets_plainly)
            for lot in every_lot(sides, tracks):
                self.assertIs(meets(sides, tracks, frame, wish, lot), lot in met)
            self.tell(sides, tracks, frame, wish, met)

    def test_wide_tables(self):
        for k, (sides, tracks, frame) in enumerate([(3, 2, TRADE), (3, 2, ((0, 1, 1), (1, 0, 1), (1, 1, 0))), (2, 3, ((2,),)),
                                                    (5, 1, ((0, 0, 0, 1, 1, 0, 0, 0, 0, 0), (1, 0, 0, 0, 0, 0, 0, 0, 0, 1)))]):
            wish = WISHES[k % 2]
            met = met_lots(sides, tracks, frame, wish, meets_by_papers)
            self.tell(sides, tracks, frame, wish, met)

    def tell(self, sides, tracks, frame, wish, met):
        least, great = least_of(met), great_of(sides, tracks, met)
        self.assertEqual(least_lots(sides, tracks, frame, wish), least)
        self.assertEqual(great_lots(sides, tracks, frame, wish), great)
        found = fewest_switches(sides, tracks, frame, wish)
        self.assertEqual(found is None, not met)
        if found is not None:
            self.assertIn(found, met)
            self.assertEqual(len(found), min(map(len, met)))
        # More switches never hurt.
        known = set(met)
        for lot in every_lot(sides, tracks)[::7]:
            self.assertEqual(lot in known, any(set(one) <= set(lot) for one in least))
            self.assertEqual(lot not in known, any(set(lot) <= set(one) for one in great))

    def test_some_boxes(self):
        seen = [0, 0]
        for rnd, sides, tracks, frame, wish in some_wishes(171, 150, SIZES):
            switches = full(sides, tracks).switches
            lot = tuple(switch for switch in switches if rnd.random() < 0.7)
            told = meets(sides, tracks, frame, wish, lot)
            self.assertIs(told, meets_plainly(sides, tracks, frame, wish, lot))
            seen[told] += 1
        self.assertGreater(min(seen), 30)

    def test_wishes_in_turn(self):
        """What is live is carried; more moves want no more switches."""
        for rnd, sides, tracks, frame, _ in some_wishes(172, 12, [(2, 2), (3, 1), (3, 2), (4, 1)]):
            found = [fewest_switches(sides, tracks, frame, wish) for wish in (("live", 0), ("live", 1), ("live", 20), ("loads",))]
            sizes = [lot and len(lot) for lot in found]
            if sizes[0] is None:
                self.assertEqual(sizes, [None] * 4)
            else:
                self.assertEqual(sizes, sorted(sizes, reverse=True))
                self.assertEqual(sizes[2], sizes[3])


class Trees(unittest.TestCase):
    def test_small(self):
        frame, wish = ((1,),), ("loads",)
        self.assertIs(is_short_tree(2, 1, frame, wish, 0, []), True)
        self.assertIs(is_short_tree(2, 1, frame, wish, 1, [()]), True)
        self.assertIs(is_short_tree(2, 1, frame, wish, 0, [()]), True)
        self.assertIs(is_short_tree(2, 1, frame, wish, 1, ((), {A: []})), True)
        self.assertIs(is_short_tree(2, 1, frame, wish, 1, []), False)
        self.assertIs(is_short_tree(2, 1, frame, wish, 2, ((), {A: []})), False)
        self.assertIs(is_short_tree(2, 1, frame, wish, 2, [(), ()]), False)
        self.assertIsNone(short_tree(2, 1, frame, wish, 2))
        self.assertIsNotNone(short_tree(2, 1, frame, wish, 1))
        # Where no box meets the wish, the full box shows it, for each number.
        for number in range(14):
            found = short_tree(2, 1, ((2,),), wish, number)
            self.assertIs(is_short_tree(2, 1, ((2,),), wish, number, found), True)
            self.assertIs(is_short_tree(2, 1, ((2,),), wish, number, ((A,), {})), True)
            self.assertIs(is_short_tree(2, 1, ((2,),), wish, number, [(A,)] * number), True)
        self.assertIsNone(short_tree(3, 2, ((0, 0, 0),), wish, 13))
        self.assertIsNone(short_tree(5, 1, greatest_loads(5, 1), wish, 13))
        self.assertIsNotNone(short_tree(5, 1, greatest_loads(5, 1), wish, 10))

    def test_some_trees(self):
        seen = {}
        for rnd, sides, tracks, frame, wish in some_wishes(173, 45, [(2, 1), (2, 2), (3, 1), (4, 1), (2, 3), (3, 2)]):
            self.trees(rnd, sides, tracks, frame, wish, seen)
        for frame in (((2,),), ((3,),)):
            self.trees(rnd, 2, 3, frame, ("live", 0), seen)
        for wish in WISHES:
            self.trees(rnd, 3, 2, TRADE, wish, seen)
            self.trees(rnd, 3, 2, greatest_loads(3, 2), wish, seen)
        self.assertGreater(min(seen.values()), 20)
        self.assertEqual(len(seen), 4)

    def trees(self, rnd, sides, tracks, frame, wish, seen):
        fewest = fewest_switches(sides, tracks, frame, wish)
        least = [set(lot) for lot in least_lots(sides, tracks, frame, wish)]
        every = full(sides, tracks).switches

        class Met:
            """The lots that meet the wish."""

            def __contains__(self, lot):
                return any(one <= set(lot) for one in least)

        for number in range(14):
            found = short_tree(sides, tracks, frame, wish, number)
            # HEART.
            self.assertEqual(found is None, fewest is not None and len(fewest) < number)
            if found is None:
                continue
            self.assertTrue(judged_tree(sides, tracks, Met(), set(), number, found))
            self.ascend(found)
            self.assertIs(is_short_tree(sides, tracks, frame, wish, number, found), True)
            seen["tree" if isinstance(found, tuple) else "list"] = seen.get(
                "tree" if isinstance(found, tuple) else "list", 0) + 1
            for _ in range(6):
                thing = spoiled_trees(rnd, found, every)
                right = judged_tree(sides, tracks, Met(), set(), number, thing)
                self.assertIs(is_short_tree(sides, tracks, frame, wish, number, thing), right)
                seen[right] = seen.get(right, 0) + 1

    def ascend(self, thing):
        """All dicts of a tree have ascending keys."""
        if isinstance(thing, tuple):
            ascending_dict(self, thing[1])
            for tree in thing[1].values():
                self.ascend(tree)

    def test_any_values(self):
        frame, wish = ((2,),), ("live", 0)
        right = ((A, C), {D: [(D, B)], B: ((D, B), {A: [], C: []})})
        told = (2, 2, frame, wish, 2)
        self.assertIs(is_short_tree(*told, right), True)
        for thing in ([(A, C), (D, B)], ((A, C), (D, B)), [(A, D), (C, B)], ((A, C), {D: ((D, B),), B: [(D, B), (D, B)[:2]][:1]})):
            self.assertIs(is_short_tree(*told, thing), True, thing)
        wrong = [[], [(A, C)], [(A, C), (A, D)], list(right), (right[0],), right + ({},), ((A, B), right[1]), ((A,), right[1]),
                 ((A, C), {D: [(D, B)]}), ((A, C), {**right[1], A: []}), ((A, C), {}), ((A, C), {D: [], B: []}),
                 ((C, A), right[1]), ([A, C], right[1]), ((A, C), {D: [(D, B)], B: None}), [(A, C), [D, B]], [(A, C), (B, D)],
                 ((A, C), list(right[1])), ((A, C), {D: [(D, B)], B: [(A, B)]}), ((A, C), {D: [(D, B)], B: [(A, C)]}),
                 [(A, C), (D, B), None], ((A, C), {D: [(D, B)], 0: []}), ((A, C), {D: [(D, B)], ((0, 2), (1, 0)): []}),
                 [(A, C), (D, B), ((0, 2), (1, 0))], {}, None, {A: []}, ((A, C), {D: [(D, B)], A: [(A, C)]}),
                 ((A, C), {C: [(A, C)], A: [(A, C)]})]
        things = [thing for thing in untrue(right) + listed(right) if thing != right]
        for thing in wrong + things + any_values() + [deep(80)]:
            self.assertIs(is_short_tree(*told, thing), thing == ((A, C), {D: [(D, B)], B: ((D, B), {A: [], C: []})}), thing)
        for thing in untrue([(A, C), (D, B)]) + [((A, C), {**right[1], D: [[D, B]]})]:
            self.assertIs(is_short_tree(*told, thing), False, thing)

    def test_returned_anew(self):
        anew(self, least_lots, 2, 2, ((2,),), ("live", 0))
        anew(self, great_lots, 2, 2, ((2,),), ("live", 0))
        for sides, tracks, frame in ((2, 3, ((2,),)), (3, 2, TRADE), (2, 1, ((2,),))):
            anew(self, short_tree, sides, tracks, frame, ("loads",), 2)


class Refused(unittest.TestCase):
    def test_refusals(self):
        wishes = [("loads", 0), ("loads", 1), ["loads"], ("live",), ("live", -1), ("live", 21), ("live", "0"), ("live", 0, 0),
                  ("load",), ("live", None), ["live", 0], "loads", "live", ("live", (0,)), (0, "live"), ("live", True),
                  ("live", False), (("loads",),)]
        frames = [((1, 1, 1),), [(2,)], ((1,), (2,)), ((2,), (1,))] + untrue(((1,),))
        lots = [(B, A), (A, A), [A], A, (((0, 2), (1, 0)),), (((1, 0), (0, 0)),), (((0, 0), (0, 1)),)]
        lots += untrue((A, B)) + listed((A, B))
        more = {0: [1, 6, "2"], 1: [0, 7, "1"], 2: frames, 3: wishes}
        errors = [BadSides, BadTracks, BadFrame, BadWish]
        refuse(self, meets, [2, 2, ((2,),), ("loads",), (A, B)], errors + [BadSwitches], {**more, 4: lots})
        for function in (fewest_switches, least_lots, great_lots):
            refuse(self, function, [2, 2, ((2,),), ("live", 20)], errors, more)
        numbers = {4: [14, "0", (0,)]}
        refuse(self, short_tree, [2, 2, ((2,),), ("live", 0), 13], errors + [BadNumber], {**more, **numbers})
        refuse(self, is_short_tree, [2, 2, ((2,),), ("live", 0), 0, None], errors + [BadNumber, None], {**more, **numbers})

    def test_too_many(self):
        wish = ("loads",)
        every = [(meets, ((),), ((B, A),)), (fewest_switches, (), None), (least_lots, (), None), (great_lots, (), None),
                 (short_tree, (0,), (14,)), (is_short_tree, (0, []), (-1, []))]
        for sides in range(2, 6):
            for tracks in range(1, 7):
                many = len(full(sides, tracks).switches)
                frame = ((0,) * (sides * (sides - 1) // 2),)
                self.assertEqual(many <= 12, (sides, tracks) in SIZES)
                for function, right, wrong in every:
                    if many > 12:
                        too_many(self, 12, function, sides, tracks, frame, wish, *right)
                        with self.assertRaises(BadWish):
                            function(sides, tracks, frame, None, *right)
                        if wrong is not None:
                            with self.assertRaises((BadSwitches, BadNumber)):
                                function(sides, tracks, frame, wish, *wrong)
                    else:
                        function(sides, tracks, frame, wish, *right)


if __name__ == "__main__":
    unittest.main()
