"""Point 112: finding out the one mute switch."""

import random
import unittest

from allcalls.boxes import Box, full, plain
from allcalls.errors import BadBox, BadFrame, BadHeard, BadTelling, BadTrial
from allcalls.hunts import fewest_trials, foe, is_trials_paper, suspects, trials_left, trials_paper, wise
from allcalls.partings import halving, is_bar_of, is_parting, open_caps, parting
from allcalls.trials import left, within_reach
from tests.helpers import any_values, anew, every_standing, listed, refuse, some_box, some_frame, too_many, untrue
from tests.test_frames import tree_box
from tests.test_keepings import EVERY
from tests.test_partings import PETERSEN, WIDE, has_parting, is_plain_bar, is_plain_parting
from tests.test_trials import FRAMES, TELLINGS, plain_mutes, plain_told, trials_of

A = ((0, 0), (1, 0))
B = ((0, 1), (1, 1))
C = ((0, 2), (1, 2))
EMPTY = Box(2, 1, ())
LOADS = ((0, 0, 1), (0, 1, 0), (1, 0, 0))


class Hunt:
    """The least number of trials for each set of mutes that may be, by trying all trials."""

    def __init__(self, trials, telling):
        self.trials = trials
        self.telling = telling
        self.known = {}

    def split(self, mutes, trial):
        found = {}
        for one in mutes:
            found.setdefault(plain_told(self.telling, one, trial), []).append(one)
        return found

    def least(self, mutes):
        name = tuple(mutes)
        if name not in self.known:
            best = 0 if len(mutes) < 2 else 99
            for trial in self.trials if len(mutes) > 1 else []:
                parts = self.split(mutes, trial)
                if len(parts) > 1:
                    best = min(best, 1 + max(self.least(part) for part in parts.values()))
            self.known[name] = best
        return self.known[name]


def plain_left(every, heard):
    return [mutes for mutes in every if all(plain_told("whole", mutes, trial) == thing for trial, thing in heard)]


def some_frames(seed, many, most=6):
    rnd = random.Random(seed)
    done = 0
    while done < many:
        box = some_box(rnd, rnd.randint(2, 4), rnd.randint(1, 3), most)
        frame = some_frame(rnd, box.sides, rnd.choice([1, 2, 3]), rnd.choice([1, 2]))
        if len(every_standing(box, frame)) <= 24:
            done += 1
            yield rnd, box, frame


def some_heard(rnd, every, trials):
    """What may be heard, told of trials one behind the other."""
    heard = []
    for _ in range(rnd.randint(0, 3)):
        trial, thing = rnd.choice(trials), rnd.random() < 0.5
        if plain_left(every, heard + [(trial, thing)]):
            heard.append((trial, thing))
    return heard


class Hunts(unittest.TestCase):
    def test_some_hunts(self):
        numbers, sures = set(), [0, 0]
        for rnd, box, frame in some_frames(112, 120):
            trials, every = trials_of(box, frame), plain_mutes(box, frame, 1)
            hunt = Hunt(trials, "whole")
            heard = some_heard(rnd, every, trials) if trials else []
            may_be = plain_left(every, heard)
            mutes, sure = suspects(box, frame, heard)
            self.assertEqual(mutes, tuple(one[0] for one in may_be if one))
            self.assertIs(sure, () not in may_be)
            self.assertEqual(may_be, left(box, frame, "whole", 1, heard))
            least = hunt.least(may_be)
            self.assertEqual(trials_left(box, frame, heard), least)
            self.assertEqual(trials_left(box, frame, tuple(heard)), least)
            numbers.add(least)
            sures[sure] += 1
            if sure:
                self.assertTrue(2 ** least >= len(mutes) and 2 ** max(0, least - 1) < max(2, len(mutes)))
            else:
                some = within_reach(box, frame)
                self.assertIsNotNone(parting(box, frame, tuple(one for one in some if one in mutes), halving(least)))
                if least > 0:
                    self.assertIsNone(parting(box, frame, mutes, halving(least - 1)))
            trial = wise(box, frame, heard)
            self.assertEqual(trial is None, least == 0)
            if trial is not None:
                self.assertIn(trial, trials)
                for part in hunt.split(may_be, trial).values():
                    self.assertLess(hunt.least(part), least)
            self.foes(rnd, box, frame, heard, trials, hunt, may_be)
        self.assertGreaterEqual(numbers, {0, 1, 2, 3})
        self.assertGreater(min(sures), 30)

    def foes(self, rnd, box, frame, heard, trials, hunt, may_be):
        for trial in rnd.sample(trials, min(4, len(trials))):
            parts = hunt.split(may_be, trial)
            told = foe(box, frame, heard, trial)
            self.assertIn(told, parts)
            self.assertIs(type(told), bool)
            if len(parts) > 1:
                self.assertIs(told, hunt.least(parts[True]) >= hunt.least(parts[False]))

    def test_whoever_tries_by_wise(self):
        for rnd, box, frame in some_frames(113, 40):
            every = plain_mutes(box, frame, 1)
            for hidden in every:
                heard = []
                number = trials_left(box, frame, [])
                trial = wise(box, frame, heard)
                while trial is not None:
                    heard.append((trial, plain_told("whole", hidden, trial)))
                    trial = wise(box, frame, heard)
                self.assertLessEqual(len(heard), number)
                self.assertEqual(plain_left(every, heard), [hidden])

    def test_whoever_tells_by_foe(self):
        for rnd, box, frame in some_frames(114, 40):
            trials, every = trials_of(box, frame), plain_mutes(box, frame, 1)
            heard = []
            for _ in range(trials_left(box, frame, []) - 1):
                trial = rnd.choice(trials)
                heard.append((trial, foe(box, frame, heard, trial)))
                self.assertGreater(len(plain_left(every, heard)), 1)

    def test_small(self):
        box, frame = plain(2, 3), ((2,),)
        self.assertEqual(suspects(box, frame, []), ((A, B, C), False))
        self.assertEqual(suspects(box, frame, [((A, B), True)]), ((C,), False))
        self.assertEqual(suspects(box, frame, [((A, B), False)]), ((A, B), True))
        self.assertEqual(suspects(box, frame, [((A, B), False), ((B,), True)]), ((A,), True))
        self.assertEqual(suspects(EMPTY, frame, ()), ((), False))
        self.assertEqual([trials_left(box, frame, heard) for heard in (
            [], [((A, B), True)], [((A, B), False)], [((C,), False)], [((A, B), True), ((C,), True)])], [2, 1, 1, 0, 0])
        self.assertIsNone(wise(box, frame, [((C,), False)]))
        self.assertEqual(wise(box, frame, [((A, B), True)]), (C,))
        # It was told already, so it cannot be told otherwise.
        self.assertIs(foe(box, frame, [((A,), False)], (A,)), False)
        self.assertIs(foe(box, frame, [((A,), True)], (A,)), True)
        self.assertIs(foe(box, frame, [((A,), False)], (B, C)), True)
        self.assertIs(foe(box, frame, [((A, B), False)], (A,)), True)
        self.assertIs(foe(box, frame, [], (A, B)), True)
        self.assertIs(foe(full(2, 3), ((3,),), [((A, B, C), True)], (((0, 0), (1, 1)),)), True)
        self.assertIs(foe(plain(2, 3), ((3,),), [], (A, B, C)), False)


class Fewest(unittest.TestCase):
    def test_examples(self):
        box, frame = plain(2, 3), ((2,),)
        self.assertEqual([fewest_trials(box, frame, telling) for telling in ("whole", "each")], [2, 2])
        ones = {((),): ("numbers", (1, 1, 1))}
        self.assertIs(is_trials_paper(box, frame, "whole", (2, [(A, B), (C,)], ones)), True)
        self.assertIs(is_trials_paper(box, frame, "each", (2, [(A, B), (C,)], ones)), True)
        self.assertIs(is_trials_paper(box, frame, "each", (2, [(C,), (A, B)], ones)), True)
        self.assertIs(is_trials_paper(box, frame, "whole", (2, [(C,), (A, B)], ones)), False)
        self.assertEqual([fewest_trials(plain(3, 1), LOADS, telling) for telling in ("whole", "each")], [3, 3])
        self.assertEqual([fewest_trials(full(2, 2), ((2,),), telling) for telling in ("whole", "each")], [3, 2])
        self.assertEqual([fewest_trials(PETERSEN, WIDE, telling) for telling in ("whole", "each")], [5, 4])

    def test_some_frames(self):
        for rnd, box, frame in some_frames(115, 90, 5):
            trials = trials_of(box, frame)
            standings = every_standing(box, frame)
            some = within_reach(box, frame)
            whole = Hunt(trials, "whole").least(plain_mutes(box, frame, 1))
            each = fewest_trials(box, frame, "each")
            self.assertEqual(fewest_trials(box, frame, "whole"), whole)
            for most in (1, 2, 3) if len(some) < 5 else (1, 2):
                self.assertEqual(Hunt(trials, "each").least(plain_mutes(box, frame, most)), each)
            self.assertGreaterEqual(whole, each)
            self.assertGreater(2 ** whole, len(some))
            degree = max([sum(pin in switch for switch in some) for wire in some for pin in wire], default=0)
            self.assertGreaterEqual(each, degree)
            for telling, caps_of, number in (("whole", halving, whole), ("each", open_caps, each)):
                told, parts, held = trials_paper(box, frame, telling)
                self.assertEqual(told, number)
                self.assertTrue(is_plain_parting(standings, some, caps_of(number), parts))
                self.assertIs(is_trials_paper(box, frame, telling, (told, parts, held)), True)
                self.assertIs(is_trials_paper(box, frame, telling, (told, tuple(parts), held)), True)
                if number == 0:
                    self.assertIsNone(held)
                else:
                    self.assertFalse(has_parting(standings, some, caps_of(number - 1)))
                    self.assertTrue(is_plain_bar(standings, some, caps_of(number - 1), held))
                    for other in ((told, parts, None), (told - 1, parts, held), (told + 1, parts, held),
                                  (told, parts + [()], held), (told, parts[:-1], held), (told, parts, {})):
                        self.assertIs(is_trials_paper(box, frame, telling, other), False)

    def test_none(self):
        for box, frame in ((EMPTY, ((1,),)), (plain(2, 2), ((0,),)), (EMPTY, ((0,),))):
            for telling in ("whole", "each"):
                self.assertEqual(fewest_trials(box, frame, telling), 0)
                self.assertEqual(trials_paper(box, frame, telling), (0, [], None))
                self.assertIs(is_trials_paper(box, frame, telling, (0, [], None)), True)
                self.assertIs(is_trials_paper(box, frame, telling, (0, (), None)), True)
                for thing in ((0, [], {}), (False, [], None), (0, [()], None), (0, None, None), (1, [()], {}), (0, []),
                              [0, [], None]):
                    self.assertIs(is_trials_paper(box, frame, telling, thing), False)
            self.assertEqual(suspects(box, frame, []), ((), False))
            self.assertEqual(trials_left(box, frame, []), 0)
            self.assertIsNone(wise(box, frame, []))

    def test_is_trials_paper(self):
        box, frame = plain(2, 3), ((2,),)
        for telling in ("whole", "each"):
            right = trials_paper(box, frame, telling)
            self.assertIs(is_trials_paper(box, frame, telling, right), True)
            wrong = [right[:2], right + (None,), list(right), (2, right[1], None), (401, [()] * 401, right[2]),
                     (-1, [], None), (None, right[1], right[2]), ("2", right[1], right[2]), (2, right[2], right[1])]
            parts = [(2, other, right[2]) for other in untrue(right[1]) + listed(right[1]) if other != tuple(right[1])]
            bars = [(2, right[1], other) for other in untrue(right[2]) + listed(right[2])]
            for thing in wrong + parts + bars + any_values():
                self.assertIs(is_trials_paper(box, frame, telling, thing), False, thing)
        one = trials_paper(plain(2, 1), ((1,),), "whole")
        self.assertEqual(one[:2], (1, [(A,)]))
        self.assertIs(is_trials_paper(plain(2, 1), ((1,),), "whole", one), True)
        self.assertIs(is_trials_paper(plain(2, 1), ((1,),), "whole", (True,) + one[1:]), False)
        anew(self, trials_paper, box, frame, "each")


class Refused(unittest.TestCase):
    def test_refusals(self):
        box, frame = plain(2, 3), ((2,),)
        for function in (suspects, trials_left, wise):
            refuse(self, function, [box, frame, []], [BadBox, BadFrame, None], {1: FRAMES})
        trials = [(), (B, A), [A], A, (A, B, C), (((0, 0), (1, 1)),)] + untrue((A, B)) + listed((A, B))
        refuse(self, foe, [box, frame, [], (A, B)], [BadBox, BadFrame, None, BadTrial], {1: FRAMES, 3: trials})
        for function in (fewest_trials, trials_paper):
            refuse(self, function, [box, frame, "each"], [BadBox, BadFrame, BadTelling], {1: FRAMES, 2: TELLINGS})
        refuse(self, is_trials_paper, [box, frame, "whole", None], [BadBox, BadFrame, BadTelling, None],
               {1: FRAMES, 2: TELLINGS})

    def test_bad_heard(self):
        box, frame = plain(2, 3), ((2,),)
        calls = [(suspects, ()), (trials_left, ()), (wise, ()), (foe, ((A,),)), (foe, (None,))]
        right = ((A, B), True)
        wrong = [((A, B), 1), ((B,), 0), ((A, B), (A,)), ((A, B), None), ((), True), ((B, A), True), ([A], True), None,
                 ((A, B, C), True), (), ((A, B),), [(A, B), True], 7, True, right + (0,), ((A, B), "True")]
        for function, rest in calls:
            for item in wrong + untrue(right)[:4]:
                for rows in ([item], [right, item, None], (right, item)):
                    with self.assertRaises(BadHeard) as caught:
                        function(box, frame, rows, *rest)
                    self.assertEqual(caught.exception.at, [k for k, one in enumerate(rows) if one is item][0])
            for thing in (None, True, 7, "", {}, {0: right}, box):
                with self.assertRaises(BadHeard) as caught:
                    function(box, frame, thing, *rest)
                self.assertIsNone(caught.exception.at)
            # What cannot be heard: at the first item behind which nothing is left.
            for rows, at in (([((A,), False), ((A,), True)], 1), ([((A,), False), ((B, C), False), None], 1),
                             ([((A, B), True), ((C,), True), ((A,), False)], 2),
                             ([((A,), False), ((A,), False), ((B,), False)], 2)):
                with self.assertRaises(BadHeard) as caught:
                    function(box, frame, rows, *rest)
                self.assertEqual(caught.exception.at, at)

    def test_too_many(self):
        for many in (5000, 5001):
            box = tree_box(many)
            some = within_reach(box, EVERY)
            degree, pin = max((sum(pin in switch for switch in some), pin) for wire in some for pin in wire)
            parts = parting(box, EVERY, some, open_caps(degree))
            star = {((),) * (degree - 1): ("numbers", tuple(int(pin in switch) for switch in some))}
            # The judge raises no TooMany.
            self.assertIs(is_trials_paper(box, EVERY, "each", (degree, parts, star)), True)
            self.assertEqual(fewest_trials(box, EVERY, "each"), degree)
            whole = fewest_trials(box, EVERY, "whole")
            self.assertEqual(trials_left(box, EVERY, []), whole)
            if many > 5000:
                for telling in ("whole", "each"):
                    too_many(self, 5000, trials_paper, box, EVERY, telling)
                with self.assertRaises(BadTelling):
                    trials_paper(box, EVERY, None)
            else:
                for telling, number in (("whole", whole), ("each", degree)):
                    told = trials_paper(box, EVERY, telling)
                    self.assertEqual(told[0], number)
                    self.assertIs(is_trials_paper(box, EVERY, telling, told), True)
                self.assertIs(is_bar_of(box, EVERY, some, halving(whole - 1), trials_paper(box, EVERY, "whole")[2]), True)
                self.assertIs(is_parting(box, EVERY, some, open_caps(degree), parts), True)


if __name__ == "__main__":
    unittest.main()
