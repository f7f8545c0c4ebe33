"""Points 20 and 21: ways and bars."""

import random
import unittest

from allcalls.boxes import Box, beside, crossed, full, pieces, plain, without
from allcalls.errors import BadBox, BadLoad, BadPiece
from allcalls.frames import greatest_loads, is_way, way_load
from allcalls.loads import bar, box_frame, is_bar, is_way_for, piece_loads, way_for
from tests.helpers import (any_values, anew, count_load, every_load, every_way, listed, pairs_of, refuse, some_box,
                           too_many, under, untrue)
from tests.test_frames import tree_box

A = ((0, 0), (1, 0))
B = ((0, 1), (1, 1))
P = [(0, 0, 1), (0, 1, 0), (1, 0, 0)]
Q = [(0, 0, 2), (0, 1, 1), (0, 2, 0), (1, 0, 1), (1, 1, 0), (2, 0, 0)]

# Boxes whose pieces have just 1000 and 1001 greatest sums.
SUMS_1000 = Box(5, 6, (
    ((0, 0), (4, 0)), ((0, 1), (2, 1)), ((0, 1), (4, 1)), ((0, 2), (1, 2)), ((0, 2), (2, 2)), ((0, 2), (3, 2)),
    ((0, 3), (1, 3)), ((0, 3), (4, 3)), ((0, 5), (1, 5)), ((0, 5), (2, 5)), ((0, 5), (3, 5)), ((0, 5), (4, 5)),
    ((1, 1), (3, 1)), ((1, 2), (4, 2)), ((1, 3), (2, 3)), ((1, 3), (3, 3)), ((1, 4), (2, 4)), ((1, 4), (3, 4)),
    ((1, 5), (4, 5)), ((2, 1), (3, 1)), ((2, 1), (4, 1)), ((2, 2), (3, 2)), ((2, 3), (3, 3)), ((2, 3), (4, 3)),
    ((3, 0), (4, 0)), ((3, 3), (4, 3))))

SUMS_1001 = Box(5, 4, (
    ((0, 0), (2, 0)), ((0, 0), (3, 0)), ((0, 1), (1, 1)), ((0, 1), (4, 1)), ((0, 2), (2, 2)), ((0, 2), (3, 2)),
    ((0, 3), (2, 3)), ((0, 3), (3, 3)), ((0, 3), (4, 3)), ((1, 0), (2, 0)), ((1, 0), (3, 0)), ((1, 0), (4, 0)),
    ((1, 1), (2, 1)), ((1, 1), (4, 1)), ((1, 2), (3, 2)), ((1, 2), (4, 2)), ((1, 3), (2, 3)), ((1, 3), (4, 3)),
    ((2, 0), (4, 0)), ((2, 1), (3, 1)), ((2, 1), (4, 1)), ((2, 3), (3, 3)), ((2, 3), (4, 3)), ((3, 0), (4, 0)),
    ((3, 1), (4, 1)), ((3, 2), (4, 2)), ((3, 3), (4, 3))))

# Boxes of one piece each: sides, tracks, how many ways there are, and the switches, side and track of both pins.
WAYS = {
    (3, 5, 20000): (
        "0011 0013 0022 0110 0113 0114 0120 0122 0214 0222 0223 0311 0312 0321 0322 0324 0412 0413 0414 0420 "
        "0423 1120 1121 1122 1123 1124 1222 1320 1321 1324 1420 1421 1422 1424"),
    (3, 5, 20001): (
        "0011 0012 0020 0022 0024 0110 0113 0114 0120 0121 0122 0123 0210 0223 0310 0311 0313 0323 0410 0413 "
        "0420 0421 0422 1024 1123 1124 1220 1320 1322 1324 1420 1423 1424"),
    (4, 3, 20000): (
        "0011 0020 0021 0030 0031 0032 0111 0112 0120 0121 0122 0130 0131 0132 0211 0212 0220 0221 0222 0231 "
        "0232 1020 1021 1022 1030 1031 1032 1120 1121 1122 1130 1131 1132 1220 1221 1222 1231 2130 2131 2132 "
        "2231 2232"),
    (4, 3, 20001): (
        "0010 0011 0012 0020 0021 0022 0030 0031 0110 0111 0112 0120 0121 0122 0131 0132 0211 0212 0220 0222 "
        "0230 0231 0232 1021 1022 1030 1031 1032 1120 1122 1130 1132 1220 1221 1222 1230 1232 2131 2132 2230 "
        "2231 2232"),
    (5, 3, 20000): (
        "0011 0012 0022 0031 0032 0041 0042 0120 0140 0211 0241 1022 1030 1041 1042 1122 1130 1132 1140 1230 "
        "1240 2040 2042 2140 2141 2230 2231 2240 2242 3042 3140 3141 3142 3240 3242"),
    (5, 3, 20001): (
        "0010 0032 0041 0122 0140 0142 0211 0222 0230 1031 1032 1040 1041 1121 1130 1131 1140 1230 1231 1240 "
        "1242 2030 2141 2142 2240 2241 2242 3040 3042 3141 3142 3240 3241 3242"),
}


def box_told(sides, tracks, text):
    return Box(sides, tracks, tuple(((int(word[0]), int(word[1])), (int(word[2]), int(word[3])))
                                    for word in text.split()))


def tops(loads):
    """Those of the loads that are below no other one, ascending."""
    loads = set(loads)
    return sorted(load for load in loads if not any(load != other and under(load, other) for other in loads))


def loads_of_ways(box):
    return [count_load(box.sides, way) for way in every_way(box)]


def sums(one, other):
    return [tuple(x + y for x, y in zip(low, high)) for low in one for high in other]


def pieces_told(box):
    """The pieces of a box as boxes of their own switches, ascending by their pins."""
    groups = []
    for switch in box.switches:
        near = [group for group in groups if any(set(switch) & set(wire) for wire in group)]
        groups = [group for group in groups if group not in near] + [sum(near, []) + [switch]]
    groups = sorted(groups, key=lambda group: sorted({pin for wire in group for pin in wire}))
    return [Box(box.sides, box.tracks, tuple(sorted(group))) for group in groups]


def lists_told(sides, parts):
    """The lists of a bar that have just the greatest sums of these loads; None if there are more than 1000 in one."""
    lists = [[(0,) * len(pairs_of(sides))]]
    for own in parts:
        lists.append(tops(sums(lists[-1], own)))
        if len(lists[-1]) > 1000:
            return None
    return lists


def loads_about(rnd, box, carried):
    """Loads at and just above what is carried, far above, and with a number of 5 and more."""
    many = len(carried[0])
    found = [(0,) * many, (99,) * many, (9,) * many, (5,) + (0,) * (many - 1), (5,) + (1,) * (many - 1)]
    for top in rnd.sample(carried, min(3, len(carried))):
        place = rnd.randrange(many)
        found += [top, top[:place] + (top[place] + 1,) + top[place + 1:], top[:place] + (5,) + top[place + 1:],
                  tuple(number // 2 for number in top), top[:place] + (0,) + top[place + 1:]]
    place = rnd.randrange(many)
    found += [(0,) * place + (rnd.choice((6, 7, 15, 16, 31, 32, 99)),) + (0,) * (many - 1 - place)]
    return found


class SmallBoxes(unittest.TestCase):
    def look_at(self, rnd, box):
        parts = [tops(loads_of_ways(piece)) for piece in pieces_told(box)]
        lists = lists_told(box.sides, parts)
        if lists is None:
            too_many(self, 1000, way_for, box, (0,) * len(pairs_of(box.sides)))
            too_many(self, 1000, bar, box, (5,) * len(pairs_of(box.sides)))
            return
        for load in loads_about(rnd, box, lists[-1]):
            way, held = way_for(box, load), bar(box, load)
            if any(under(load, top) for top in lists[-1]):
                self.assertIs(held, None)
                self.assertTrue(set(way) <= set(box.switches) and list(way) == sorted(way))
                self.assertEqual(len({pin for wire in way for pin in wire}), 2 * len(way))
                self.assertEqual(count_load(box.sides, way), load)
                self.assertIs(is_bar(box, load, lists), False)
            else:
                self.assertIs(way, None)
                self.assertEqual(held, lists)
                self.assertIs(is_bar(box, load, held), True)
                self.assertIs(is_bar(box, load, tuple(tuple(row) for row in held)), True)
            self.assertIs(is_bar(box, load, None), False)
            self.look_at_others(rnd, box, load, lists, parts)

    def look_at_others(self, rnd, box, load, lists, parts):
        """What is judged as a bar is judged by the document's words."""
        for _ in range(2):
            thing = [list(row) for row in lists]
            row = rnd.choice(thing)
            if rnd.random() < 0.4:
                row.pop(rnd.randrange(len(row)))
            else:
                old = row.pop(rnd.randrange(len(row)))
                place = rnd.randrange(len(old))
                row.append(old[:place] + (rnd.choice((0, 1, old[place] + 1, 7, 900, 999)),) + old[place + 1:])
            right = bool(thing[0]) and not any(under(load, one) for one in thing[-1])
            for before, own, after in zip(thing, parts, thing[1:]):
                right = right and all(any(under(one, top) for top in after) for one in sums(before, own))
            self.assertIs(is_bar(box, load, thing), right)

    def test_boxes_of_each_sides_and_tracks(self):
        rnd = random.Random(14)
        for sides in range(2, 6):
            for tracks in range(1, 7):
                for made in (plain, crossed):
                    box = made(sides, tracks)
                    if len(box.switches) <= 30:
                        self.look_at(rnd, box)
                    gone = rnd.sample(box.switches, max(len(box.switches) // 3, len(box.switches) - 16))
                    self.look_at(rnd, without(box, tuple(sorted(gone))))
                for many in (2, 6, 10, 12, 14):
                    self.look_at(rnd, some_box(rnd, sides, tracks, many))

    def test_the_boxes_of_the_issue(self):
        rnd = random.Random(15)
        box = without(crossed(4, 2), crossed(4, 2).switches[:2])
        for one in (box, crossed(3, 3), plain(5, 1), full(2, 3), Box(2, 1, ()), plain(2, 6), full(3, 2), full(4, 1)):
            for _ in range(3):
                self.look_at(rnd, one)
        self.assertEqual(way_for(box, (0, 1, 0, 0, 1, 0)) is None, bar(box, (0, 1, 0, 0, 1, 0)) is not None)
        self.assertEqual(bar(full(2, 3), (5,)), [[(0,)], [(3,)]])
        self.assertEqual(bar(plain(5, 1), (5,) + (0,) * 9)[0], [(0,) * 10])
        self.assertEqual(len(bar(plain(5, 1), (5,) + (0,) * 9)[1]), 15)
        for function, rest in ((bar, ()), (way_for, ())):
            anew(self, function, box, (5, 1, 1, 1, 1, 1), *rest)

    def test_pieces_of_many_switches(self):
        rnd = random.Random(23)
        for sides, tracks, many in ((2, 4, 16), (2, 5, 16), (2, 6, 15), (2, 6, 18), (3, 3, 15), (3, 3, 20), (3, 4, 16),
                                    (3, 6, 15), (4, 2, 20), (4, 3, 16), (4, 5, 14), (5, 2, 18), (5, 3, 15), (5, 6, 15)):
            switches = full(sides, tracks).switches
            for _ in range(2):
                box = Box(sides, tracks, tuple(sorted(rnd.sample(switches, min(many, len(switches))))))
                self.look_at(rnd, box)
        # Rows of pins between two sides, some of which stay free whatever is taken.
        for tracks in (4, 5, 6):
            for far in range(1, tracks + 1):
                pins = [((0, track), (1, other)) for track in range(tracks) for other in range(far)]
                self.look_at(rnd, Box(2, tracks, tuple(pins)))
                self.look_at(rnd, Box(2, tracks, tuple(sorted(((0, one), (1, two)) for (_, two), (_, one) in pins))))

    def test_what_full_boxes_let(self):
        for sides, tracks in ((2, 6), (3, 2), (3, 3), (4, 2), (5, 2)):
            box, let = full(sides, tracks), greatest_loads(sides, tracks)
            self.assertEqual(box_frame(box), let)
            for load in let[::3]:
                self.assertIs(is_way_for(box, load, way_for(box, load)), True)
                more = (load[0] + 1,) + load[1:]
                self.assertIs(is_bar(box, more, bar(box, more)), True)

    def test_rows_of_switches(self):
        # Pieces that are rows of up to 18 switches, each of which meets the next one.
        rnd = random.Random(16)
        for many in range(7, 19):
            for sides in (2, 3, 4, 5):
                pins = [(k % sides, k // sides) for k in range(many + 1)]
                if pins[-1][1] < 6:
                    row = tuple(sorted(tuple(sorted(two)) for two in zip(pins, pins[1:])))
                    self.look_at(rnd, Box(sides, 6, row))


class Ways(unittest.TestCase):
    def test_way_for(self):
        self.assertEqual(way_for(plain(2, 1), (1,)), (A,))
        self.assertEqual(way_for(plain(2, 2), (0,)), ())
        self.assertIsNone(way_for(plain(2, 2), (3,)))
        self.assertIsNone(way_for(plain(3, 2), (1, 1, 1)))
        self.assertEqual(way_load(crossed(3, 2), way_for(crossed(3, 2), (1, 1, 1))), (1, 1, 1))
        self.assertEqual(way_for(Box(3, 2, ()), (0, 0, 0)), ())
        self.assertIsNone(way_for(Box(3, 2, ()), (0, 0, 1)))
        self.assertIsNone(way_for(plain(5, 3), (99,) * 10))

    def test_some_ways_and_bars(self):
        rnd = random.Random(20)
        for _ in range(60):
            box = some_box(rnd, rnd.randint(2, 4), rnd.randint(1, 3), 9)
            carried = set(loads_of_ways(box))
            self.assertEqual(box_frame(box), tuple(tops(carried)))
            for load in rnd.sample(every_load(box.sides, 2), 3) + rnd.sample(sorted(carried), 1):
                way, held = way_for(box, load), bar(box, load)
                if load in carried:
                    self.assertTrue(is_way(box, way))
                    self.assertEqual(count_load(box.sides, way), load)
                    self.assertIs(is_way_for(box, load, way), True)
                    self.assertIsNone(held)
                else:
                    self.assertIsNone(way)
                    self.assertIs(is_bar(box, load, held), True)

    def test_is_way_for(self):
        box = plain(3, 2)
        right = (A, B)
        self.assertIs(is_way_for(box, (2, 0, 0), right), True)
        self.assertIs(is_way_for(box, (0, 0, 0), ()), True)
        self.assertIs(is_way_for(box, (1, 0, 0), right), False)
        for thing in [(A,), (B, A), (A, A), [A, B], (A, None)] + untrue(right) + listed(right) + any_values():
            self.assertIs(is_way_for(box, (2, 0, 0), thing), False)
        # The pieces of this box have too many ways, but a way is judged without them.
        self.assertIs(is_way_for(full(5, 6), (1,) + (0,) * 9, (A,)), True)

    def test_refusals(self):
        box = plain(3, 2)
        wrong = [(1, 1), (0, 0, 100), (0, 0, -1), [0, 0, 1], (0, 0, 0, 1), ((0, 0, 1),)] + untrue((1, 0, 1))
        for function in (way_for, bar):
            refuse(self, function, [box, (1, 1, 1)], [BadBox, BadLoad], {1: wrong})
        for function in (is_way_for, is_bar):
            refuse(self, function, [box, (1, 1, 1), None], [BadBox, BadLoad, None], {1: wrong})
        refuse(self, box_frame, [box], [BadBox])


class Pieces(unittest.TestCase):
    def test_piece_loads(self):
        box = plain(3, 2)
        for piece in pieces(box):
            self.assertEqual(piece_loads(box, piece), tuple(P))
        self.assertEqual(piece_loads(plain(5, 1), pieces(plain(5, 1))[0]), tuple(tops(loads_of_ways(plain(5, 1)))))
        self.assertEqual(piece_loads(full(3, 2), pieces(full(3, 2))[0]), ((0, 0, 2), (0, 2, 0), (1, 1, 1), (2, 0, 0)))

    def test_some_piece_loads(self):
        rnd = random.Random(21)
        for _ in range(40):
            box = some_box(rnd, rnd.randint(2, 5), rnd.randint(1, 3), 9)
            for piece in pieces(box):
                part = Box(box.sides, box.tracks, tuple(wire for wire in box.switches if wire[0] in piece))
                self.assertEqual(piece_loads(box, piece), tuple(tops(loads_of_ways(part))))

    def test_wrong_pieces(self):
        box = plain(3, 2)
        piece = pieces(box)[0]
        wrong = [piece[:2], list(piece), piece[::-1], piece + piece, ((0, 0),), (), ((0, 0), (1, 1), (2, 0)),
                 ((0, 5), (1, 5), (2, 5))] + untrue(piece) + listed(piece)
        refuse(self, piece_loads, [box, piece], [BadBox, BadPiece], {1: wrong})
        for thing in ((), ((0, 0), (1, 0)), None):
            with self.assertRaises(BadPiece):
                piece_loads(full(5, 6), thing)

    def test_too_many_ways(self):
        just, more = tree_box(20000), tree_box(20001)
        zero = (0,) * 10
        self.assertEqual(len(pieces(just)), 1)
        self.assertTrue(piece_loads(just, pieces(just)[0]))
        self.assertEqual(way_for(just, zero), ())
        self.assertIsNone(bar(just, zero))
        self.assertTrue(box_frame(just))
        self.assertIs(is_bar(just, zero, []), False)
        too_many(self, 20000, piece_loads, more, pieces(more)[0])
        for function in (way_for, bar):
            too_many(self, 20000, function, more, zero)
        for thing in (None, [], [[zero], [zero]]):
            too_many(self, 20000, is_bar, more, zero, thing)
        too_many(self, 20000, box_frame, more)
        with self.assertRaises(BadLoad):
            way_for(more, zero + (0,))

    def test_boxes_that_have_far_too_many_ways(self):
        great, zero = full(4, 3), (0,) * 6
        self.assertEqual(pieces(great), [tuple((side, track) for side in range(4) for track in range(3))])
        too_many(self, 20000, piece_loads, great, pieces(great)[0])
        too_many(self, 20000, box_frame, great)
        for load in (zero, (1,) * 6, (99,) * 6):
            too_many(self, 20000, way_for, great, load)
            too_many(self, 20000, bar, great, load)
            for thing in (None, [], [[zero], [zero]]):
                too_many(self, 20000, is_bar, great, load, thing)
        too_many(self, 1000, box_frame, plain(5, 6))
        for load in (None, zero[1:], (100,) + zero[1:]):
            for function, rest in ((way_for, ()), (bar, ()), (is_bar, (None,))):
                with self.assertRaises(BadLoad):
                    function(great, load, *rest)
        with self.assertRaises(BadPiece):
            piece_loads(great, pieces(great)[0][1:])

    def test_pieces_of_just_so_many_ways(self):
        for (sides, tracks, many), text in WAYS.items():
            box = box_told(sides, tracks, text)
            ways = every_way(box)
            self.assertEqual((len(ways), len(pieces(box))), (many, 1))
            zero = (0,) * len(pairs_of(sides))
            calls = [(piece_loads, (pieces(box)[0],)), (box_frame, ()), (way_for, (zero,)), (bar, (zero,)),
                     (is_bar, (zero, [])), (bar, ((99,) * len(zero),))]
            if many > 20000:
                for function, rest in calls:
                    too_many(self, 20000, function, box, *rest)
                continue
            loads = {count_load(sides, way) for way in ways}
            top = [load for load in loads if not any(
                tuple(number + (at == place) for at, number in enumerate(load)) in loads for place in range(len(load)))]
            # What is below a load that is carried is carried, so a greatest one has none with one wire more.
            self.assertEqual(piece_loads(box, pieces(box)[0]), tuple(sorted(top)))
            self.assertEqual(box_frame(box), tuple(sorted(top)))
            self.assertEqual(bar(box, (99,) * len(zero)), [[zero], sorted(top)])
            for load in top[:20]:
                self.assertIs(is_way_for(box, load, way_for(box, load)), True)
            self.assertIsNone(bar(box, zero))
            self.assertIs(is_bar(box, zero, []), False)
            self.assertIs(is_bar(box, (99,) * len(zero), [[zero], sorted(top)]), True)

    def test_some_more_and_less(self):
        # With a switch less there are fewer ways, with one more that meets what is there there are more.
        for (sides, tracks, many), text in WAYS.items():
            box = box_told(sides, tracks, text)
            for k in range(0, len(box.switches), 17):
                less = Box(sides, tracks, box.switches[:k] + box.switches[k + 1:])
                wide = [len(every_way(Box(sides, tracks, tuple(wire for wire in less.switches if wire[0] in piece))))
                        for piece in pieces(less)]
                self.assertLess(max(wide), 20000)
                self.assertTrue(box_frame(less))
            new = [wire for wire in full(sides, tracks).switches if wire not in box.switches]
            for wire in new[::25]:
                more = Box(sides, tracks, tuple(sorted(box.switches + (wire,))))
                self.assertEqual(len(pieces(more)), 1)
                self.assertGreater(len(every_way(more)), 20000)
                too_many(self, 20000, box_frame, more)

    def test_only_the_own_piece_counts(self):
        great = full(3, 4)
        box = beside(plain(3, 1), great)
        self.assertEqual(piece_loads(box, pieces(box)[0]), tuple(P))
        too_many(self, 20000, piece_loads, box, pieces(box)[1])
        too_many(self, 20000, way_for, box, (0, 0, 0))


class Frames(unittest.TestCase):
    def test_box_frame(self):
        self.assertEqual(box_frame(Box(2, 1, ())), ((0,),))
        self.assertEqual(box_frame(plain(2, 6)), ((6,),))
        self.assertEqual(box_frame(plain(3, 2)), tuple(Q))

    def test_too_many_sums(self):
        zero = (0,) * 10
        self.assertEqual(len(box_frame(SUMS_1000)), 1000)
        self.assertEqual(way_for(SUMS_1000, zero), ())
        self.assertEqual(len(bar(SUMS_1000, (9,) * 10)[-1]), 1000)
        for box in (SUMS_1001, plain(5, 4), beside(crossed(5, 4), plain(5, 1))):
            too_many(self, 1000, box_frame, box)
            too_many(self, 1000, way_for, box, zero)
            too_many(self, 1000, bar, box, zero)
            too_many(self, 1000, bar, box, (99,) * 10)
            self.assertIs(is_bar(box, zero, []), False)
        # A piece with too many ways is told of first.
        box = beside(plain(5, 4), full(5, 2))
        too_many(self, 1000, box_frame, box)
        box = beside(plain(4, 3), full(4, 3))
        too_many(self, 20000, box_frame, box)


class Bars(unittest.TestCase):
    def test_example(self):
        self.assertEqual(bar(plain(3, 2), (1, 1, 1)), [[(0, 0, 0)], P, Q])
        way = (((0, 0), (1, 1)), ((0, 1), (2, 0)), ((1, 0), (2, 1)))
        self.assertIs(is_way_for(crossed(3, 2), (1, 1, 1), way), True)
        self.assertIsNone(bar(crossed(3, 2), (1, 1, 1)))
        anew(self, bar, plain(3, 2), (1, 1, 1))

    def test_bar_has_the_greatest_sums(self):
        rnd = random.Random(22)
        for _ in range(40):
            box = some_box(rnd, rnd.randint(2, 4), 3, 8)
            lists = [[(0,) * len(pairs_of(box.sides))]]
            for piece in pieces(box):
                lists.append(tops(sums(lists[-1], piece_loads(box, piece))))
            self.assertEqual(bar(box, (9,) * len(lists[0][0])), lists)
        self.assertEqual(bar(Box(2, 1, ()), (1,)), [[(0,)]])

    def test_is_bar(self):
        box, load = plain(3, 2), (1, 1, 1)
        right = [
            [[(0, 0, 0)], P, Q], ([(0, 0, 0)], P, Q), [((0, 0, 0),), tuple(P), tuple(Q)], [[(0, 0, 0)], P[::-1], Q + Q],
            [[(0, 0, 0), (0, 0, 0)], P, Q], [[(0, 0, 0)], P, Q + [(999, 0, 0)]],
            [[(0, 0, 0)], P, [(0, 2, 2), (2, 0, 2), (2, 2, 0)]], [[(0, 0, 0)], P + [(0, 0, 0)], Q],
        ]
        for thing in right:
            self.assertIs(is_bar(box, load, thing), True, thing)
        wrong = [
            [], [[]], [[], [], []], [P, Q], [[(0, 0, 0)], P, Q, Q], [[(0, 0, 0)], P], [[(0, 0, 0)], P, []],
            [[(0, 0, 0)], P, Q + [(1, 1, 1)]], [[(0, 0, 0)], P, Q[1:]], [[(0, 0, 0)], P[1:], Q],
            [[(0, 0, 0)], P, Q + [(1000, 0, 0)]], [[(0, 0, 0)], P, Q + [(0, 0, -1)]], [[(0, 0, 0)], P, Q + [(0, 0)]],
            [[(0, 0, 0)], P, Q + [[0, 0, 0]]], [[(1, 0, 0)], P, Q], [[(0, 0, 0)], P, None], {0: [(0, 0, 0)], 1: P, 2: Q},
            [[(0, 0, 0)], [(0, 0, 1), (0, 1, 0), (1, 1, 0)], Q], [{(0, 0, 0): 1}, P, Q], [[(0, 0, 0)], P, Q + [None]],
        ]
        for thing in wrong + any_values() + untrue([[(0, 0, 0)], P, Q]):
            self.assertIs(is_bar(box, load, thing), False, thing)
        for thing in ([[[0, 0, 0]], P, Q], [[(0, 0, 0)], [[0, 0, 1], (0, 1, 0), (1, 0, 0)], Q]):
            self.assertIs(is_bar(box, load, thing), False)
        self.assertIs(is_bar(box, (2, 0, 0), [[(0, 0, 0)], P, Q]), False)
        self.assertIs(is_bar(box, (2, 1, 0), [[(0, 0, 0)], P, Q]), True)
        # With the first list empty nothing would have to be led on.
        self.assertIs(is_bar(box, load, [[], P, Q]), False)
        self.assertIs(is_bar(Box(2, 1, ()), (1,), [[(0,)]]), True)
        self.assertIs(is_bar(Box(2, 1, ()), (1,), [[(1,)]]), False)
        self.assertIs(is_bar(Box(2, 1, ()), (0,), [[(0,)]]), False)

    def test_never_both(self):
        box = crossed(3, 2)
        for load in every_load(3, 2):
            self.assertNotEqual(way_for(box, load) is None, bar(box, load) is None)


if __name__ == "__main__":
    unittest.main()
