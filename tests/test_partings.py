"""Point 111: partings of switches into standings with caps, and bars."""

import random
import unittest
from itertools import product

from allcalls.boxes import Box, crossed, full, plain
from allcalls.errors import BadBox, BadCaps, BadFrame, BadNumber, BadSome
from allcalls.frames import greatest_loads
from allcalls.partings import bar_of, halving, is_bar_of, is_parting, open_caps, parting
from allcalls.trials import within_reach
from tests.helpers import (any_values, anew, ascending_dict, every_standing, listed, refuse, some_box, some_frame,
                           too_many, untrue)
from tests.test_frames import tree_box
from tests.test_keepings import EVERY

A = ((0, 0), (1, 0))
B = ((0, 1), (1, 1))
C = ((0, 2), (1, 2))
EMPTY = Box(2, 1, ())


def petersen_box():
    """A box whose 15 switches join ten pins as Petersen's graph: three at each pin, but not parted by three."""
    edges = [(k, (k + 1) % 5) for k in range(5)] + [(k, k + 5) for k in range(5)]
    edges += [(k + 5, (k + 2) % 5 + 5) for k in range(5)]
    sides = [row for row in product(range(3), repeat=10) if all(row[one] != row[two] for one, two in edges)][0]
    pins = [(side, sides[:k].count(side)) for k, side in enumerate(sides)]
    return Box(3, 6, tuple(sorted(tuple(sorted((pins[one], pins[two]))) for one, two in edges)))


PETERSEN = petersen_box()
WIDE = ((9, 9, 9),)


def is_plain_parting(standings, some, caps, thing):
    return (len(thing) == len(caps) and all(item in standings and len(item) <= cap for item, cap in zip(thing, caps))
            and sorted(switch for item in thing for switch in item) == list(some))


def has_parting(standings, some, caps):
    """Whether there is one: each switch is put into each item in turn."""
    known = set(standings)
    states = {tuple(() for _ in caps)}
    for switch in some:
        nexts = set()
        for items in states:
            for at, item in enumerate(items):
                wider = tuple(sorted(item + (switch,)))
                if len(wider) <= caps[at] and wider in known:
                    nexts.add(items[:at] + (wider,) + items[at + 1:])
        states = nexts
    return bool(states)


def is_plain_hold(standings, some, caps, hold):
    wires = [switch for item in hold for switch in item]
    return (len(hold) == len(caps) and len(set(wires)) == len(wires) and set(wires) <= set(some)
            and all(item in standings and len(item) <= cap for item, cap in zip(hold, caps)))


def is_plain_bar(standings, some, caps, thing):
    """Whether a dict from tuples of tuples to pairs is a bar, by the document's words."""
    if tuple(() for _ in caps) not in thing:
        return False
    for hold, (word, what) in thing.items():
        if not is_plain_hold(standings, some, caps, hold):
            return False
        loose = [switch for switch in some if not any(switch in item for item in hold)]
        if word == "share":
            if what not in loose:
                return False
            for at, item in enumerate(hold):
                wider = tuple(sorted(item + (what,)))
                if wider in standings and len(wider) <= caps[at]:
                    if hold[:at] + (wider,) + hold[at + 1:] not in thing:
                        return False
        elif word == "numbers":
            if len(what) != len(some) or not all(0 <= number <= 999 for number in what):
                return False
            worth = dict(zip(some, what))
            borne = 0
            for item, cap in zip(hold, caps):
                borne += max(sum(worth[switch] for switch in other if switch not in item) for other in standings
                             if set(item) <= set(other) <= set(item) | set(loose) and len(other) <= cap)
            if not borne < sum(worth[switch] for switch in loose):
                return False
        else:
            return False
    return True


def some_partings(seed, many):
    rnd = random.Random(seed)
    done = 0
    while done < many:
        box = some_box(rnd, rnd.randint(2, 4), rnd.randint(1, 4), 9)
        frame = some_frame(rnd, box.sides, rnd.choice([1, 2, 3]), 2)
        reach = within_reach(box, frame)
        some = tuple(switch for switch in reach if rnd.random() < 0.8)
        caps = [rnd.choice([0, 1, 1, 2, 2, 3, 99]) for _ in range(rnd.randint(0, 4))]
        if rnd.random() < 0.3 and some:
            degree = max(sum(pin in switch for switch in some) for wire in some for pin in wire)
            caps = [99] * (degree - rnd.randint(0, 1))
        standings = [way for way in every_standing(box, frame) if set(way) <= set(some)]
        if len(standings) < 80:
            done += 1
            yield rnd, box, frame, some, caps, standings


class Partings(unittest.TestCase):
    def test_some_partings(self):
        both = [0, 0]
        for rnd, box, frame, some, caps, standings in some_partings(111, 200):
            found = has_parting(standings, some, caps)
            both[found] += 1
            told, held = parting(box, frame, some, caps), bar_of(box, frame, some, caps)
            self.assertEqual(told is not None, found)
            self.assertEqual(held is None, found)
            if found:
                self.assertTrue(is_plain_parting(standings, some, caps, told))
                self.assertIs(is_parting(box, frame, some, caps, told), True)
                self.assertIs(is_parting(box, frame, some, tuple(caps), tuple(told)), True)
                self.other_partings(rnd, box, frame, some, caps, standings, told)
            else:
                self.assertTrue(is_plain_bar(standings, some, caps, held))
                self.assertIs(is_bar_of(box, frame, some, caps, held), True)
                ascending_dict(self, held)
                self.other_bars(rnd, box, frame, some, caps, standings, held)
        self.assertGreater(min(both), 60)

    def other_partings(self, rnd, box, frame, some, caps, standings, told):
        for _ in range(3):
            thing = list(told)
            if thing:
                thing[rnd.randrange(len(thing))] = rnd.choice(standings)
            if rnd.random() < 0.3:
                rnd.shuffle(thing)
            self.assertIs(is_parting(box, frame, some, caps, thing), is_plain_parting(standings, some, caps, thing))
        self.assertIs(is_parting(box, frame, some, caps, told + [()]), False)

    def other_bars(self, rnd, box, frame, some, caps, standings, held):
        holds = list(held)
        for _ in range(4):
            thing = dict(held)
            hold = rnd.choice(holds)
            if rnd.random() < 0.3:
                del thing[hold]
            elif held[hold][0] == "numbers" and rnd.random() < 0.5:
                numbers = list(held[hold][1])
                at = rnd.randrange(len(numbers))
                numbers[at] = max(0, numbers[at] + rnd.choice([-1, 1]))
                thing[hold] = ("numbers", tuple(numbers))
            elif some:
                thing[hold] = ("share", rnd.choice(some))
            self.assertIs(is_bar_of(box, frame, some, caps, thing), is_plain_bar(standings, some, caps, thing))
        if some and caps:
            # Each key must have such a node, also one to which no share leads.
            hold = tuple(rnd.choice(standings) if at == 0 else () for at in range(len(caps)))
            thing = {hold: ("numbers", (1,) * len(some)), **held}
            self.assertIs(is_bar_of(box, frame, some, caps, thing), is_plain_bar(standings, some, caps, thing))

    def test_some_bars_of_shares(self):
        # A bar of shares alone comes of trying all places.
        for rnd, box, frame, some, caps, standings in some_partings(112, 80):
            if has_parting(standings, some, caps) or len(some) > 5:
                continue
            thing, rest = {}, [tuple(() for _ in caps)]
            while rest:
                hold = rest.pop()
                loose = [switch for switch in some if not any(switch in item for item in hold)]
                thing[hold] = ("share", rnd.choice(loose))
                for at, item in enumerate(hold):
                    wider = tuple(sorted(item + (thing[hold][1],)))
                    if wider in standings and len(wider) <= caps[at]:
                        rest.append(hold[:at] + (wider,) + hold[at + 1:])
            if len(thing) < 300:
                self.assertIs(is_bar_of(box, frame, some, caps, thing), True)
                if len(thing) > 1:
                    gone = rnd.choice(list(thing)[1:])
                    less = {hold: node for hold, node in thing.items() if hold != gone}
                    self.assertIs(is_bar_of(box, frame, some, caps, less),
                                  is_plain_bar(standings, some, caps, less))

    def test_example(self):
        box, frame = plain(2, 3), ((2,),)
        some = (A, B, C)
        self.assertIs(is_parting(box, frame, some, halving(2), [(A, B), (C,)]), True)
        self.assertIs(is_parting(box, frame, some, halving(2), [(C,), (A, B)]), False)
        self.assertIs(is_parting(box, frame, some, open_caps(2), [(C,), (A, B)]), True)
        for caps in (halving(1), open_caps(1)):
            self.assertIsNone(parting(box, frame, some, caps))
            self.assertIs(is_bar_of(box, frame, some, caps, {((),): ("numbers", (1, 1, 1))}), True)
        three, loads = plain(3, 1), ((0, 0, 1), (0, 1, 0), (1, 0, 0))
        for caps in (halving(2), open_caps(2)):
            ones = {((), ()): ("numbers", (1, 1, 1))}
            self.assertIs(is_bar_of(three, loads, three.switches, caps, ones), True)
        box = full(2, 2)
        self.assertIs(is_bar_of(box, frame, box.switches, halving(2), {((), ()): ("numbers", (1,) * 4)}), True)
        self.assertIsNotNone(parting(box, frame, box.switches, halving(3)))
        self.assertIsNotNone(parting(box, frame, box.switches, open_caps(2)))

    def test_no_switches(self):
        for caps in ([], [0], [3, 0], open_caps(400)):
            found = [()] * len(caps)
            self.assertEqual(parting(plain(2, 2), ((0,),), (), caps), found)
            self.assertEqual(parting(plain(2, 2), ((1,),), (), caps), found)
            self.assertIsNone(bar_of(EMPTY, ((1,),), (), caps))
            self.assertIs(is_parting(EMPTY, ((1,),), (), caps, found), True)
            # Nothing is less than nothing.
            self.assertIs(is_bar_of(EMPTY, ((1,),), (), caps, {tuple(found): ("numbers", ())}), False)
        anew(self, parting, plain(2, 2), ((1,),), (A, B), [1, 1])

    def test_no_caps(self):
        box, frame = plain(2, 2), ((2,),)
        for caps in ([], [0], [0, 0, 0], ()):
            self.assertIsNone(parting(box, frame, (A,), caps))
            empty = ((),) * len(caps)
            self.assertIs(is_bar_of(box, frame, (A,), caps, bar_of(box, frame, (A,), caps)), True)
            self.assertIs(is_bar_of(box, frame, (A,), caps, {empty: ("share", A)}), True)
            self.assertIs(is_bar_of(box, frame, (A,), caps, {empty: ("numbers", (1,))}), True)
            self.assertIs(is_bar_of(box, frame, (A,), caps, {empty: ("numbers", (0,))}), False)
        self.assertEqual(parting(box, frame, (A, B), [0, 2, 0])[1], (A, B))
        anew(self, bar_of, box, frame, (A, B), [1])

    def test_numbers_alone_are_not_enough(self):
        # Parts of standings would do here: three at each pin, and each switch is in two of six standings of five.
        some = PETERSEN.switches
        self.assertEqual(len(some), 15)
        self.assertIsNone(parting(PETERSEN, WIDE, some, open_caps(3)))
        held = bar_of(PETERSEN, WIDE, some, open_caps(3))
        self.assertIs(is_bar_of(PETERSEN, WIDE, some, open_caps(3), held), True)
        self.assertEqual(held[((),) * 3][0], "share")
        standings = every_standing(PETERSEN, WIDE)
        self.assertTrue(is_plain_bar(standings, some, open_caps(3), held))
        told = parting(PETERSEN, WIDE, some, open_caps(4))
        self.assertTrue(is_plain_parting(standings, some, open_caps(4), told))

    def test_caps(self):
        box = full(2, 6)
        some = box.switches
        self.assertEqual(sorted(map(len, parting(box, ((6,),), some, open_caps(6)))), [6] * 6)
        self.assertIsNone(parting(box, ((6,),), some, open_caps(5)))
        self.assertIsNone(parting(box, ((6,),), some, [6] * 5 + [5]))
        self.assertIsNotNone(parting(box, ((6,),), some, [1] * 36))
        self.assertIsNone(parting(box, ((6,),), some, [1] * 35))
        told = parting(box, ((6,),), some, [1] * 400)
        self.assertEqual((len(told), sum(map(len, told))), (400, 36))
        self.assertIsNone(parting(box, ((2,),), some, open_caps(17)))
        self.assertIsNotNone(parting(box, ((2,),), some, open_caps(18)))

    def test_wide_boxes(self):
        # As many standings as there are switches at a pin, each as great as can be, so one less is too few.
        for box, frame, number in ((full(2, 6), ((4,),), 9), (full(3, 4), ((2, 2, 2),), 8), (full(4, 4), None, 12),
                                   (full(4, 3), ((1,) * 6,), 9), (crossed(4, 4), None, 3), (full(2, 6), ((5,),), 8)):
            frame = frame or greatest_loads(box.sides, box.tracks)
            told = parting(box, frame, box.switches, open_caps(number))
            self.assertIs(is_parting(box, frame, box.switches, open_caps(number), told), True)
            self.assertIsNone(parting(box, frame, box.switches, open_caps(number - 1)))
        for box, frame in ((full(2, 6), ((6,),)), (full(3, 3), ((1, 1, 1),)), (crossed(4, 3), greatest_loads(4, 3))):
            found = [parting(box, frame, box.switches, halving(number)) for number in range(14)]
            self.assertEqual([told is None for told in found], sorted([told is None for told in found], reverse=True))
            for number, told in enumerate(found):
                if told is not None:
                    self.assertIs(is_parting(box, frame, box.switches, halving(number), told), True)
            self.assertIsNotNone(found[-1])

    def test_halving_and_open_caps(self):
        self.assertEqual([halving(number) for number in range(5)], [[], [1], [2, 1], [4, 2, 1], [8, 4, 2, 1]])
        self.assertEqual(halving(7), [64, 32, 16, 8, 4, 2, 1])
        self.assertEqual(halving(9), [99, 99, 64, 32, 16, 8, 4, 2, 1])
        self.assertEqual(halving(400), [99] * 393 + [64, 32, 16, 8, 4, 2, 1])
        self.assertEqual([open_caps(number) for number in (0, 1, 3, 400)], [[], [99], [99] * 3, [99] * 400])
        for function in (halving, open_caps):
            refuse(self, function, [3], [BadNumber], {0: [401, "1"]})
            anew(self, function, 3)


class Judged(unittest.TestCase):
    def test_is_parting(self):
        box, frame, some = plain(2, 3), ((2,),), (A, B, C)
        right = [(A, B), (C,)]
        self.assertIs(is_parting(box, frame, some, [2, 1], right), True)
        wrong = [[], [(A, B)], [(B, A), (C,)], [(A, B), (C,), ()], [(A, B), (B, C)], [(A,), (C,)], [(A, B, C), ()],
                 [(A, B), C], [(A, B), None], [(A, B), 7], {0: (A, B), 1: (C,)}, [(A, B), (((0, 2), (1, 1)),)]]
        for thing in wrong + untrue(right) + any_values():
            self.assertIs(is_parting(box, frame, some, [2, 1], thing), False, thing)
        for thing in listed(right):
            self.assertIs(is_parting(box, frame, some, [2, 1], thing), False)
        self.assertIs(is_parting(box, frame, some, [1, 2], right), False)
        self.assertIs(is_parting(box, ((3,),), some, [3, 0], [(A, B, C), ()]), True)
        self.assertIs(is_parting(box, frame, some, [3, 0], [(A, B, C), ()]), False)

    def test_is_bar_of(self):
        box, frame, some, caps = plain(2, 3), ((2,),), (A, B, C), [1, 1]
        right = {
            ((), ()): ("share", A), ((A,), ()): ("numbers", (0, 1, 1)), ((), (A,)): ("share", B),
            ((B,), (A,)): ("numbers", (0, 0, 1))}
        self.assertIs(is_bar_of(box, frame, some, caps, right), True)
        self.assertIs(is_bar_of(box, frame, some, caps, dict(reversed(list(right.items())))), True)
        start = ((), ())
        self.assertIs(is_bar_of(box, frame, some, caps, {start: ("numbers", (1, 1, 1))}), True)
        self.assertIs(is_bar_of(box, frame, some, caps, {start: ("numbers", (999, 999, 999))}), True)
        wrong = [{}, {start: ("share", A)}, {start: ("numbers", (0, 1, 1))}, {start: ("numbers", (1, 1, 1, 1))},
                 {start: ("numbers", [1, 1, 1])}, {start: ("numbers", (1000, 1000, 1000))}, {start: ("share", None)},
                 {start: ("numbers", (-1, 1, 1))}, {start: ("numbers", (1, 1))}, {((),): ("numbers", (1, 1, 1))},
                 {start: ("sums", (1, 1, 1))}, {start: ("numbers", (1, 1, 1), 0)}, {start: "numbers"},
                 {**right, ((A,), (A,)): ("numbers", (0, 1, 1))}, {**right, ((A, B), ()): ("numbers", (0, 0, 1))},
                 {**right, start: ("share", ((0, 0), (1, 1)))}, {**right, ((A,), ()): ("share", A)},
                 {**right, ((C,), (B,)): ("numbers", (0, 0, 0))}, list(right.items()), [right], {**right, 0: 0},
                 {**right, ((A,),): ("numbers", (0, 1, 1))}, {**right, ((A,), (), ()): ("numbers", (0, 1, 1))}]
        for hold in right:
            if hold != start:
                wrong.append({key: node for key, node in right.items() if key != hold})
        for thing in wrong + listed(right) + any_values():
            self.assertIs(is_bar_of(box, frame, some, caps, thing), False, thing)
        for thing in untrue(right):
            self.assertIs(is_bar_of(box, frame, some, caps, thing), False, thing)

    def test_shares_into_equal_places(self):
        # Room at each index counts, also where the items are equal.
        box, frame, some, caps = plain(2, 3), ((2,),), (A, B, C), [1, 1]
        short = {((), ()): ("share", A), ((A,), ()): ("numbers", (0, 1, 1))}
        self.assertIs(is_bar_of(box, frame, some, caps, short), False)
        self.assertIs(is_bar_of(box, frame, some, caps, {**short, ((), (A,)): ("numbers", (0, 1, 1))}), True)


class Refused(unittest.TestCase):
    def test_refusals(self):
        box, frame = plain(3, 2), ((1, 0, 0),)
        frames = [((1, 1),), [(2, 0, 0)]] + untrue(frame)
        out = ((0, 0), (2, 0))
        wrong = [(B, A), (A, A), A, [A], (out,), (A, out), (C,), (((0, 0), (1, 1)),)] + untrue((A, B)) + listed((A, B))
        caps = [[-1], [100], [1, True], (1, None), [[1]], "12", [0] * 401, {}, [1, "1"], 5]
        places = {1: frames, 2: wrong, 3: caps}
        for function in (parting, bar_of):
            self.refuse_here(function, [box, frame, (A, B), [1, 2]], places)
            for good in ([], (), (0,), [99] * 400):
                function(box, frame, (A, B), good)
        for function in (is_parting, is_bar_of):
            self.refuse_here(function, [box, frame, (A, B), [1, 2], None], places)

    def refuse_here(self, function, good, places):
        """[] and other lists of numbers are right caps, so they are not among what is refused there."""
        errors = [BadBox, BadFrame, BadSome, None, None][:len(good)]
        refuse(self, function, good, errors, {place: things for place, things in places.items() if place < 3})
        for thing in places[3] + [None, True, 7, "", {}, {0: 1}, (None,), [[0, 0]], ((0, 0),), [()], (((),),)]:
            with self.assertRaises(BadCaps):
                function(*good[:3], thing, *good[4:])

    def test_too_many(self):
        for many in (5000, 5001):
            box = tree_box(many)
            some = within_reach(box, EVERY)
            self.assertEqual(some, box.switches)
            degree = max(sum(pin in switch for switch in some) for wire in some for pin in wire)
            caps = open_caps(degree - 1)
            if many > 5000:
                for rest in ((bar_of, ()), (is_bar_of, (None,))):
                    too_many(self, 5000, rest[0], box, EVERY, some, caps, *rest[1])
                    too_many(self, 5000, rest[0], box, EVERY, some, open_caps(degree), *rest[1])
                    with self.assertRaises(BadCaps):
                        rest[0](box, EVERY, some, None, *rest[1])
            else:
                held = bar_of(box, EVERY, some, caps)
                self.assertIs(is_bar_of(box, EVERY, some, caps, held), True)
                self.assertIsNone(bar_of(box, EVERY, some, open_caps(degree)))
            # Only standings of switches of some count.
            self.assertIs(is_bar_of(box, EVERY, some[:3], [0], bar_of(box, EVERY, some[:3], [0])), True)
            self.assertIsNone(parting(box, EVERY, some, caps))
            told = parting(box, EVERY, some, open_caps(degree))
            self.assertIs(is_parting(box, EVERY, some, open_caps(degree), told), True)


if __name__ == "__main__":
    unittest.main()
