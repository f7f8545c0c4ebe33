"""Point 110: mute switches, trials and what they tell."""

import random
import unittest
from itertools import combinations

from allcalls.boxes import Box, full, plain
from allcalls.errors import BadBox, BadFrame, BadHeard, BadMost, BadMutes, BadTelling, BadTrial, BadTrials
from allcalls.frames import is_standing
from allcalls.trials import all_mutes, left, told, twins, within_reach
from tests.helpers import anew, every_standing, listed, refuse, some_box, some_frame, too_many, untrue

A = ((0, 0), (1, 0))
B = ((0, 1), (1, 1))
C = ((0, 0), (2, 0))
D = ((1, 0), (2, 0))
EMPTY = Box(2, 1, ())
FRAMES = [((1, 1, 1),), [(2,)]] + untrue(((1,),))
TELLINGS = ["Whole", "WHOLE", "all", ["whole"], ("each",), b"whole"]


def plain_reach(box, frame):
    return tuple(switch for switch in box.switches if (switch,) in every_standing(box, frame))


def plain_mutes(box, frame, most):
    switches = plain_reach(box, frame)
    return sorted(lot for many in range(most + 1) for lot in combinations(switches, many))


def plain_told(telling, mutes, trial):
    if telling == "whole":
        return not set(trial) & set(mutes)
    return tuple(switch for switch in trial if switch not in mutes)


def trials_of(box, frame):
    return [way for way in every_standing(box, frame) if way]


def some_frames(seed, many):
    rnd = random.Random(seed)
    for _ in range(many):
        box = some_box(rnd, rnd.randint(2, 4), rnd.randint(1, 3), 7)
        yield rnd, box, some_frame(rnd, box.sides, rnd.choice([1, 2]), rnd.choice([1, 2]))


class Reach(unittest.TestCase):
    def test_small(self):
        box = plain(3, 1)
        self.assertEqual(within_reach(box, ((1, 0, 1),)), (A, D))
        self.assertEqual(within_reach(box, ((0, 1, 0), (1, 0, 0))), (A, C))
        self.assertEqual(within_reach(box, ((0, 0, 0),)), ())
        self.assertEqual(within_reach(EMPTY, ((1,),)), ())
        # A load need not be carried.
        self.assertEqual(within_reach(box, ((99, 99, 99),)), (A, C, D))
        self.assertEqual(all_mutes(box, ((1, 0, 1),), 0), [()])
        self.assertEqual(all_mutes(box, ((1, 0, 1),), 1), [(), (A,), (D,)])
        self.assertEqual(all_mutes(box, ((1, 0, 1),), 3), [(), (A,), (A, D), (D,)])
        self.assertEqual(all_mutes(box, ((0, 0, 0),), 3), [()])
        anew(self, all_mutes, box, ((1, 0, 1),), 1)

    def test_some_frames(self):
        for rnd, box, frame in some_frames(110, 80):
            self.assertEqual(within_reach(box, frame), plain_reach(box, frame))
            for most in range(4):
                self.assertEqual(all_mutes(box, frame, most), plain_mutes(box, frame, most))

    def test_too_many_mutes(self):
        # The numbers of mutes that are nearest to 5000, on both sides.
        for many, most, number in ((31, 3, 4992), (32, 3, 5489), (99, 2, 4951), (100, 2, 5051)):
            great = full(2, 6) if many < 40 else full(4, 6)
            switches = [switch for switch in great.switches if switch[0][0] == 0][:many]
            # Switches that are not within reach do not count.
            others = [switch for switch in great.switches if switch[0][0] > 0]
            box = Box(great.sides, 6, tuple(sorted(switches + others)))
            frame = ((1,),) if many < 40 else ((1, 1, 1, 0, 0, 0),)
            self.assertEqual(len(within_reach(box, frame)), many)
            every = [(all_mutes, (most,)), (left, ("whole", most, [])), (left, ("each", most, [])),
                     (twins, ("whole", most, [])), (twins, ("each", most, []))]
            for function, rest in every:
                if number > 5000:
                    too_many(self, 5000, function, box, frame, *rest)
                elif function == twins:
                    self.assertEqual(twins(box, frame, *rest), ((), (switches[0],)))
                else:
                    self.assertEqual(len(function(box, frame, *rest)), number)
            if number > 5000:
                with self.assertRaises(BadHeard):
                    left(box, frame, "whole", most, [None])
                with self.assertRaises(BadTrials):
                    twins(box, frame, "whole", most, [None])
            self.assertIs(told(box, frame, "whole", tuple(switches), (switches[0],)), False)


class Told(unittest.TestCase):
    def test_small(self):
        box, frame = plain(2, 2), ((2,),)
        self.assertIs(told(box, frame, "whole", (), (A, B)), True)
        self.assertIs(told(box, frame, "whole", (B,), (A, B)), False)
        self.assertIs(told(box, frame, "whole", (B,), (A,)), True)
        self.assertEqual(told(box, frame, "each", (), (A, B)), (A, B))
        self.assertEqual(told(box, frame, "each", (B,), (A, B)), (A,))
        self.assertEqual(told(box, frame, "each", (A, B), (A, B)), ())
        self.assertEqual(told(box, frame, "each", (A, B), (A,)), ())

    def test_some_trials(self):
        for rnd, box, frame in some_frames(111, 60):
            trials = trials_of(box, frame)
            reach = plain_reach(box, frame)
            for trial in rnd.sample(trials, min(5, len(trials))):
                mutes = tuple(switch for switch in reach if rnd.random() < 0.4)
                for telling in ("whole", "each"):
                    found = told(box, frame, telling, mutes, trial)
                    self.assertEqual(found, plain_told(telling, mutes, trial))
                    self.assertIs(type(found), bool if telling == "whole" else tuple)

    def test_some_left(self):
        for rnd, box, frame in some_frames(112, 80):
            trials = trials_of(box, frame)
            if not trials:
                continue
            most = rnd.randint(0, 3)
            every = plain_mutes(box, frame, most)
            for telling in ("whole", "each"):
                hidden = rnd.choice(plain_mutes(box, frame, 3))
                heard = [(trial, plain_told(telling, hidden, trial)) for trial in
                         [rnd.choice(trials) for _ in range(rnd.randint(0, 3))]]
                plainly = [mutes for mutes in every
                           if all(plain_told(telling, mutes, trial) == thing for trial, thing in heard)]
                self.assertEqual(left(box, frame, telling, most, heard), plainly)
                self.assertEqual(left(box, frame, telling, most, tuple(heard)), plainly)

    def test_what_cannot_be(self):
        box, frame = plain(2, 2), ((2,),)
        self.assertEqual(left(box, frame, "whole", 3, [((A,), True), ((A,), False)]), [])
        self.assertEqual(left(box, frame, "whole", 1, [((A,), False), ((B,), False)]), [])
        self.assertEqual(left(box, frame, "each", 3, [((A,), (A,)), ((A, B), (B,))]), [])
        self.assertEqual(left(box, frame, "each", 0, [((A,), ())]), [])
        self.assertEqual(left(box, frame, "whole", 2, [((A,), False), ((B,), False)]), [(A, B)])
        anew(self, left, box, frame, "whole", 3, [])

    def test_some_twins(self):
        found = [0, 0]
        for rnd, box, frame in some_frames(113, 120):
            trials = trials_of(box, frame)
            reach = plain_reach(box, frame)
            chosen = [rnd.choice(trials) for _ in range(rnd.randint(0, 6))] if trials else []
            if rnd.random() < 0.4:
                chosen += [(switch,) for switch in reach]
            told_twins = {}
            for telling in ("whole", "each"):
                for most in range(4):
                    every = plain_mutes(box, frame, most)
                    names = [[plain_told(telling, mutes, trial) for trial in chosen] for mutes in every]
                    pairs = [(every[one], every[two]) for one, two in combinations(range(len(every)), 2)
                             if names[one] == names[two]]
                    first = min(pairs) if pairs else None
                    self.assertEqual(twins(box, frame, telling, most, chosen), first)
                    told_twins[telling, most] = first
                    found[first is None] += 1
            self.facts(reach, chosen, told_twins)
        self.assertGreater(min(found), 100)

    def facts(self, reach, chosen, told_twins):
        tried = [[switch in trial for trial in chosen] for switch in reach]
        for most in (1, 2, 3):
            self.assertEqual(told_twins["each", most] is None, all(any(row) for row in tried))
            if told_twins["whole", most] is None:
                self.assertIsNone(told_twins["each", most])
            for telling in ("whole", "each"):
                if told_twins[telling, most] is None:
                    self.assertIsNone(told_twins[telling, most - 1])
        unlike = len({tuple(row) for row in tried}) == len(tried)
        self.assertEqual(told_twins["whole", 1] is None, all(any(row) for row in tried) and unlike)

    def test_no_trials(self):
        self.assertEqual(twins(plain(2, 2), ((1,),), "whole", 1, []), ((), (A,)))
        self.assertIsNone(twins(plain(2, 2), ((1,),), "whole", 0, []))
        self.assertIsNone(twins(EMPTY, ((1,),), "each", 3, []))
        self.assertIsNone(twins(plain(2, 2), ((0,),), "each", 3, ()))


class Refused(unittest.TestCase):
    def test_refusals(self):
        box, frame = plain(2, 2), ((2,),)
        refuse(self, within_reach, [box, frame], [BadBox, BadFrame], {1: FRAMES})
        refuse(self, all_mutes, [box, frame, 3], [BadBox, BadFrame, BadMost], {1: FRAMES, 2: [4, "1"]})
        mutes = [(B, A), (A, A), A, [A], (((0, 0), (1, 1)),)] + untrue((A, B)) + listed((A, B))
        for telling in ("whole", "each"):
            refuse(self, told, [box, frame, telling, (A, B), (A, B)],
                   [BadBox, BadFrame, BadTelling, BadMutes, BadTrial],
                   {1: FRAMES, 2: TELLINGS, 3: mutes, 4: mutes + [()]})
            refuse(self, left, [box, frame, telling, 3, []], [BadBox, BadFrame, BadTelling, BadMost, None],
                   {1: FRAMES, 2: TELLINGS, 3: [4, "1"]})
            refuse(self, twins, [box, frame, telling, 0, []], [BadBox, BadFrame, BadTelling, BadMost, None],
                   {1: FRAMES, 2: TELLINGS, 3: [4, "1"]})

    def test_mutes_out_of_reach(self):
        box, frame = plain(3, 1), ((1, 0, 1),)
        for mutes in ((C,), (A, C), (C, D)):
            with self.assertRaises(BadMutes):
                told(box, frame, "whole", mutes, (A,))
        for trial in ((C,), (A, D), ()):
            self.assertIs(is_standing(box, frame, trial), trial == ())
            with self.assertRaises(BadTrial):
                told(box, frame, "each", (A,), trial)

    def test_bad_heard(self):
        box, frame = plain(2, 2), ((2,),)
        right = {"whole": ((A, B), True), "each": ((A, B), (A,))}
        other = {"whole": ((B,), False), "each": ((B,), ())}
        for telling in ("whole", "each"):
            wrong = {
                "whole": [((A, B), 1), ((B,), 0), ((A, B), (A,)), ((A, B), None), ((A, B), "True"), ((), True)],
                "each": [((A, B), True), ((A,), (B,)), ((A, B), (B, A)), ((A, B), [A]), ((A, B), (A, A)), ((), ()),
                         ((A, B), (((0, 0), (1, 1)),)), ((A, B), A), ((A, B), None)] + untrue(right["each"]),
            }[telling]
            wrong += [None, (), ((A, B),), list(right[telling]), (right[telling],), right[telling] + (0,), 7, "heard",
                      ((B, A), right[telling][1]), ([A, B], right[telling][1]), {0: 0}, True]
            for item in wrong:
                for rows in ([item], [right[telling], item, None], (right[telling], other[telling], item)):
                    with self.assertRaises(BadHeard) as caught:
                        left(box, frame, telling, 1, rows)
                    self.assertEqual(caught.exception.at, [k for k, one in enumerate(rows) if one is item][0])
            for thing in (None, True, 7, "", {}, {0: right[telling]}, box):
                with self.assertRaises(BadHeard) as caught:
                    left(box, frame, telling, 1, thing)
                self.assertIsNone(caught.exception.at)
            with self.assertRaises(BadMost):
                left(box, frame, telling, 4, None)

    def test_bad_trials(self):
        box, frame = plain(2, 2), ((2,),)
        wrong = [None, (), [A], (B, A), A, 7, "trial", (((0, 0), (1, 1)),), True, {}] + untrue((A, B)) + listed((A, B))
        for item in wrong:
            for rows in ([item], [(A,), (A, B), item, None], ((B,), item)):
                with self.assertRaises(BadTrials) as caught:
                    twins(box, frame, "whole", 1, rows)
                self.assertEqual(caught.exception.at, [k for k, one in enumerate(rows) if one is item][0])
        for thing in (None, True, 7, "", {}, {0: (A,)}, box):
            with self.assertRaises(BadTrials) as caught:
                twins(box, frame, "each", 1, thing)
            self.assertIsNone(caught.exception.at)


if __name__ == "__main__":
    unittest.main()
