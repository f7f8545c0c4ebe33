"""Point 152: what an outsider can tell who hears what is asked, but not what is answered."""

import random
import unittest

from allcalls.boxes import Box, crossed, full, plain
from allcalls.errors import BadAt, BadBox, BadFrame, BadHeard, BadMoves, BadStanding, NoRun
from allcalls.frames import standings
from allcalls.hearsay import fence, is_fence, is_run, may_stand, run_through, surely
from tests.helpers import (WRONG, any_values, anew, count_load, every_standing, inside, listed, refuse, some_box,
                           some_frame, too_many, untrue, with_one)
from tests.test_frames import tree_box
from tests.test_keepings import EVERY

A = ((0, 0), (1, 0))
B = ((0, 1), (1, 1))
C = ((0, 0), (1, 1))
D = ((0, 1), (1, 0))
WANT = ("want", (0, 1))
TWO = plain(2, 2)
HEARD = [WANT, WANT, ("end", B), ("end", A)]


def gone_at(heard, at):
    return {what for word, what in heard[:at] if word == "break"}


def answers_of(box, frame, moves, heard, at, way, ways):
    """All answers to the item at a standing; None if it is not due there."""
    gone, (word, what) = gone_at(heard, at), heard[at]
    load = count_load(box.sides, way)
    if set(way) & gone:
        return None
    if word == "end":
        return [tuple(switch for switch in way if switch != what)] if what in way else None
    if word == "want":
        load = with_one(box.sides, load, what)
        if not inside(frame, load):
            return None
    else:
        gone = gone | {what}
    return [other for other in ways if count_load(box.sides, other) == load and not set(other) & gone
            and len(set(way) - set(other) - {what}) <= moves]


def steps_of(box, frame, moves, heard):
    """For each index the dict from all standings to their answers (None where the item is not due)."""
    ways = every_standing(box, frame)
    return [{way: answers_of(box, frame, moves, heard, at, way, ways) for way in ways} for at in range(len(heard))]


def every_run(steps):
    """All runs."""
    runs = [[()]]
    for step in steps:
        runs = [run + [other] for run in runs for other in step[run[-1]] or []]
    return runs


def rows_told(steps):
    """What some run has at each index, by going ahead and back over all standings."""
    ahead = [{()}]
    for step in steps:
        ahead.append({other for way in ahead[-1] for other in step[way] or []})
    for at in range(len(steps) - 1, -1, -1):
        ahead[at] = {way for way in ahead[at] if set(steps[at][way] or []) & ahead[at + 1]}
    return [sorted(row) for row in ahead]


def some_heard(rnd, box, frame, moves, most):
    """Items, most of which are due somewhere."""
    heard = []
    ways = every_standing(box, frame)
    here = [()]
    for _ in range(rnd.randint(0, most)):
        items = [("want", pair) for pair in [(0, 1), (0, box.sides - 1), (box.sides - 2, box.sides - 1)]]
        items += [("end", switch) for way in here for switch in way] or [("end", rnd.choice(box.switches))]
        left = [switch for switch in box.switches if ("break", switch) not in heard]
        if left and rnd.random() < 0.25:
            items = [("break", rnd.choice(left))]
        heard.append(rnd.choice(items))
        found = {other for way in here for other in
                 answers_of(box, frame, moves, heard, len(heard) - 1, way, ways) or []}
        if found:
            here = sorted(found)
        elif rnd.random() < 0.8:
            heard.pop()
    return heard


def some_hearings(seed, many, most=7, wide=60):
    rnd = random.Random(seed)
    done = 0
    while done < many:
        box = rnd.choice([some_box(rnd, rnd.randint(2, 4), rnd.randint(1, 3), 7), full(2, 2), plain(2, 3),
                          crossed(3, 2), full(3, 1)])
        frame = some_frame(rnd, box.sides, 2, 2)
        if len(every_standing(box, frame)) <= wide:
            done += 1
            moves = rnd.choice([0, 0, 1, 1, 2, 20])
            yield rnd, box, frame, moves, some_heard(rnd, box, frame, moves, most)


def judged_fence(steps, many, at, standing, thing):
    word, rows = thing
    first = 0 if word == "before" else at
    if word == "before":
        right = len(rows) == at + 1 and () in rows[0] and standing not in rows[-1]
    else:
        right = len(rows) == many - at + 1 and standing in rows[0] and rows[-1] == []
    return right and all(set(steps[first + k][way] or []) <= set(rows[k + 1])
                         for k in range(len(rows) - 1) for way in rows[k])


class Runs(unittest.TestCase):
    def test_example(self):
        frame = ((2,),)
        self.assertEqual(may_stand(TWO, frame, 0, HEARD), [[()], [(A,), (B,)], [(A, B)], [(A,)], [()]])
        self.assertEqual(may_stand(TWO, frame, 0, [WANT, ("end", B)]), [[()], [(B,)], [()]])
        self.assertEqual(surely(TWO, frame, 0, HEARD, 1), ())
        self.assertEqual(surely(TWO, frame, 0, HEARD, 2), (A, B))
        self.assertEqual(surely(TWO, frame, 0, HEARD, 3), (A,))
        self.assertEqual(surely(TWO, frame, 0, [WANT, ("end", B)], 1), (B,))
        self.assertIs(is_run(TWO, frame, 0, HEARD, [(), (B,), (A, B), (A,), ()]), True)
        self.assertIs(is_run(TWO, frame, 0, [WANT, ("end", B)], [(), (A,), ()]), False)
        self.assertEqual(run_through(TWO, frame, 0, HEARD, 1, (B,)), [(), (B,), (A, B), (A,), ()])
        self.assertIsNone(run_through(TWO, frame, 0, [WANT, ("end", B)], 1, (A,)))
        self.assertEqual(fence(TWO, frame, 0, [WANT, ("end", B)], 1, (A,)), ("behind", [[(A,)], []]))
        self.assertIsNone(fence(TWO, frame, 0, HEARD, 1, (A,)))
        self.assertEqual(fence(TWO, frame, 0, HEARD, 1, (A, B)), ("before", [[()], [(A,), (B,)]]))

    def test_no_items(self):
        for box, frame in ((TWO, ((2,),)), (Box(2, 1, ()), ((0,),)), (Box(2, 1, ()), ((1,),))):
            self.assertEqual(may_stand(box, frame, 0, []), [[()]])
            self.assertEqual(may_stand(box, frame, 0, ()), [[()]])
            self.assertEqual(surely(box, frame, 0, [], 0), ())
            self.assertEqual(run_through(box, frame, 0, [], 0, ()), [()])
            self.assertIsNone(fence(box, frame, 0, [], 0, ()))
            for thing, told in (([()], True), (((),), True), ([], False), ([(), ()], False), ([None], False)):
                self.assertIs(is_run(box, frame, 0, [], thing), told)
        self.assertIsNone(run_through(TWO, ((2,),), 0, [], 0, (A,)))
        self.assertEqual(fence(TWO, ((2,),), 0, [], 0, (A,)), ("before", [[()]]))

    def test_no_run(self):
        for heard in ([("end", A)], [WANT, WANT, WANT], [("break", A), ("break", B), WANT], [WANT, ("break", A), ("end", A)]):
            self.assertEqual(may_stand(TWO, ((2,),), 20, heard), [[]] * (len(heard) + 1))
            for at in range(len(heard) + 1):
                with self.assertRaises(NoRun):
                    surely(TWO, ((2,),), 20, heard, at)
                self.assertIsNone(run_through(TWO, ((2,),), 20, heard, at, ()))
                self.assertIs(is_fence(TWO, ((2,),), 20, heard, at, (), fence(TWO, ((2,),), 20, heard, at, ())), True)

    def test_breaks(self):
        frame = ((1,),)
        # A wire on the switch that breaks is laid anew; any other one may be moved then, too.
        self.assertEqual(may_stand(TWO, frame, 0, [WANT, ("break", A)]), [[()], [(A,), (B,)], [(B,)]])
        self.assertEqual(may_stand(TWO, frame, 0, [WANT, ("break", A), ("end", B)]),
                         [[()], [(A,), (B,)], [(B,)], [()]])
        self.assertEqual(may_stand(full(2, 2), frame, 0, [WANT, ("break", A), ("end", B)]),
                         [[()], [(A,), (B,)], [(B,)], [()]])
        self.assertEqual(may_stand(full(2, 2), frame, 1, [WANT, ("break", A), ("end", B)]),
                         [[()], [(A,), (C,), (D,), (B,)], [(B,)], [()]])
        every = [("break", switch) for switch in full(2, 2).switches]
        self.assertEqual(may_stand(full(2, 2), frame, 0, every), [[()]] * 5)
        self.assertEqual(may_stand(full(2, 2), frame, 20, [WANT] + every), [[]] * 6)
        self.assertEqual(may_stand(full(2, 2), frame, 0, every + [WANT]), [[]] * 6)

    def test_some_hearings(self):
        seen = {}
        for rnd, box, frame, moves, heard in some_hearings(152, 200):
            told = (box, frame, moves, heard)
            steps = steps_of(*told)
            rows = rows_told(steps)
            self.assertEqual(may_stand(*told), rows)
            runs = every_run(steps) if len(heard) < 5 else None
            if runs is not None:
                self.assertEqual(rows, [sorted({run[at] for run in runs}) for at in range(len(heard) + 1)])
            # All runs have one load at each index.
            for row in rows:
                self.assertLessEqual(len({count_load(box.sides, way) for way in row}), 1)
            for at in range(len(heard) + 1):
                if rows[0]:
                    common = set.intersection(*map(set, rows[at]))
                    self.assertEqual(surely(*told, at), tuple(sorted(common)))
                else:
                    with self.assertRaises(NoRun):
                        surely(*told, at)
            self.through(rnd, told, steps, rows, seen)
            self.more(rnd, told, rows)
        for kind in ("run", "before", "behind"):
            self.assertGreater(seen[kind], 60)

    def through(self, rnd, told, steps, rows, seen):
        """HEART: a run through a standing, or a fence, never both."""
        box, frame, moves, heard = told
        ways = every_standing(box, frame)
        for at in range(len(heard) + 1):
            for way in rnd.sample(ways, min(4, len(ways))):
                run, wall = run_through(*told, at, way), fence(*told, at, way)
                self.assertEqual(run is not None, way in rows[at])
                self.assertEqual(wall is None, way in rows[at])
                if run is not None:
                    self.assertEqual((run[0], run[at], len(run)), ((), way, len(heard) + 1))
                    self.assertTrue(all(run[k + 1] in (steps[k][run[k]] or []) for k in range(len(heard))))
                    self.assertIs(is_run(*told, run), True)
                    self.assertIs(is_run(*told, tuple(run)), True)
                    seen["run"] = seen.get("run", 0) + 1
                    self.runs(rnd, told, steps, run, ways)
                else:
                    self.assertTrue(judged_fence(steps, len(heard), at, way, wall))
                    self.assertIs(is_fence(*told, at, way, wall), True)
                    seen[wall[0]] = seen.get(wall[0], 0) + 1
                    self.fences(rnd, told, steps, at, way, wall, ways)

    def runs(self, rnd, told, steps, run, ways):
        thing = list(run)
        thing[rnd.randrange(len(thing))] = rnd.choice(ways)
        right = thing[0] == () and all(thing[k + 1] in (steps[k][thing[k]] or []) for k in range(len(steps)))
        self.assertIs(is_run(*told, thing), right)

    def fences(self, rnd, told, steps, at, way, wall, ways):
        for _ in range(3):
            rows = [list(row) for row in wall[1]]
            row = rnd.choice(rows)
            if row and rnd.random() < 0.5:
                row.pop(rnd.randrange(len(row)))
            else:
                row.append(rnd.choice(ways))
            thing = (rnd.choice([wall[0], wall[0], wall[0], "before", "behind"]), rows)
            self.assertIs(is_fence(*told, at, way, thing), judged_fence(steps, len(told[3]), at, way, thing))

    def more(self, rnd, told, rows):
        """More that is heard adds to nothing; more moves take nothing away."""
        box, frame, moves, heard = told
        left = [switch for switch in box.switches if ("break", switch) not in heard]
        extra = rnd.choice([WANT] + [("end", switch) for switch in box.switches] + [("break", s) for s in left])
        for old, new in zip(rows, may_stand(box, frame, moves, heard + [extra])):
            self.assertLessEqual(set(new), set(old))
        for old, new in zip(rows, may_stand(box, frame, min(20, moves + 1), heard)):
            self.assertLessEqual(set(old), set(new))

    def test_sixty_items(self):
        heard = [WANT, ("end", A), WANT, ("end", B)] * 15
        rows = may_stand(TWO, ((2,),), 0, heard)
        self.assertEqual(len(rows), 61)
        self.assertEqual(rows[1:5], [[(A,)], [()], [(B,)], [()]])
        with self.assertRaises(BadHeard) as told:
            may_stand(TWO, ((2,),), 0, heard + [WANT])
        self.assertIsNone(told.exception.at)

    def test_many_standings(self):
        # With many wires and standings, those near each other are found by the wires that they share.
        box, frame = full(2, 5), ((3,),)
        heard = [WANT, WANT, WANT, ("break", A), ("end", B), ("break", C), WANT]
        for moves in (0, 1, 2, 3):
            self.all_that_may_stand(box, frame, moves, heard)

    def test_many_wires(self):
        far = ("want", (2, 3))
        heard = [WANT, far] * 4 + [("end", A), WANT, ("end", ((2, 0), (3, 0))), far]
        for moves in (0, 1, 2, 3, 4, 7):
            self.all_that_may_stand(plain(4, 5), ((4, 0, 0, 0, 0, 4),), moves, heard)

    def all_that_may_stand(self, box, frame, moves, heard):
        ways = standings(box, frame)
        rows = [{()}]
        for at in range(len(heard)):
            rows.append({other for way in rows[-1] for other in self.answered(moves, heard, at, way, ways)})
        found = may_stand(box, frame, moves, heard)
        for old, new in zip(rows, found):
            self.assertLessEqual(set(new), old)
        self.assertEqual(found[-1], sorted(rows[-1]))

    def answered(self, moves, heard, at, way, ways):
        gone = gone_at(heard, at + 1)
        word, what = heard[at]
        if word == "end":
            return [tuple(switch for switch in way if switch != what)] if what in way else []
        load = [(low[0], high[0]) for low, high in way] + ([what] if word == "want" else [])
        keep = set(way) - {what}
        return [other for other in ways if len(other) == len(load) and len(keep.difference(other)) <= moves
                and gone.isdisjoint(other) and sorted(load) == sorted((low[0], high[0]) for low, high in other)]


class Judged(unittest.TestCase):
    def test_is_run(self):
        right = [(), (B,), (A, B), (A,), ()]
        wrong = [right[:-1], right[1:], right + [()], right[::-1], [(), (B,), (B, A), (A,), ()], None, {}, (),
                 [(), (A,), (A, B), (B,), ()], [(), (C,), (A, B), (A,), ()], [[], (B,), (A, B), (A,), ()], dict.fromkeys(right)]
        for thing in wrong + untrue(right) + [row for row in listed(right) if row != right] + any_values():
            self.assertIs(is_run(TWO, ((2,),), 0, HEARD, thing), False, thing)

    def test_is_fence(self):
        told = (TWO, ((2,),), 0, [WANT, ("end", B), WANT], 1, (A,))
        right = ("behind", [[(A,)], [], []])
        for thing in (right, ("behind", ([(A,)], (), ())), ("behind", [[(A,), (A, B), (A,)], [(A,)], []]),
                      ("behind", [((A,),), [], []])):
            self.assertIs(is_fence(*told, thing), thing[1][1] in ([], ()), thing)
        # The end of B leads from both wires to (A,), at which one is wanted: that leads on.
        self.assertIs(is_fence(*told, ("behind", [[(A,), ()], [], []])), True)
        wrong = [("behind", [[], [], []]), ("behind", [[(A,)], []]), ("behind", [[(A,)], [], [()]]), ["behind", right[1]],
                 ("behind", [[(A,), (B,)], [], []]), ("before", right[1]), ("behind", right[1], 0), ("behind",), ("before", []),
                 ("behind", []), ("behind", None), (None, right[1]), ("behind", [[(A,)], [], [None]]), ("behind", {}),
                 ("behind", [[(A,), (C,)], [], []]), ("ahead", right[1]), ("behind", [[(A,)], {}, []])]
        for thing in wrong + untrue(right) + [("behind", [[[A]], [], []]), ("behind", [(A,), [], []])] + any_values():
            self.assertIs(is_fence(*told, thing), False, thing)
        told = (TWO, ((2,),), 0, [WANT, ("end", B), WANT], 1, (A, B))
        right = ("before", [[()], [(A,), (B,)]])
        for thing in (right, ("before", (((),), ((B,), (A,), (A,)))), ("before", [[(), (A,)], [(A,), (B,), ()]])):
            self.assertIs(is_fence(*told, thing), thing[1][0] != [(), (A,)], thing)
        # At (A,) the next want leads to both.
        wrong = [("before", [[()], [(A,)]]), ("before", [[], [(A,), (B,)]]), ("before", [[()], [(A,), (B,), (A, B)]]),
                 ("before", [[()]]), ("before", [[()], [(A,), (B,)], []]), ("behind", right[1]), list(right),
                 ("before", [[()], [(A,), (B,), (C,)]]), ("before", [[()], [(A,), (B,), None]])]
        for thing in wrong + untrue(right) + any_values():
            self.assertIs(is_fence(*told, thing), False, thing)

    def test_returned_anew(self):
        anew(self, may_stand, TWO, ((2,),), 0, HEARD)
        anew(self, run_through, TWO, ((2,),), 0, HEARD, 1, (A,))
        anew(self, fence, TWO, ((2,),), 0, HEARD, 1, (A, B))
        anew(self, fence, TWO, ((2,),), 0, [WANT, ("end", B)], 1, (A,))


def every_function():
    """All functions of the point, and what stands behind what was heard, right and wrong."""
    return [(is_run, (None,), None), (may_stand, (), None), (surely, (0,), (9,)), (run_through, (0, ()), (0, None)),
            (fence, (0, ()), (9, ())), (is_fence, (0, (), None), (0, None, None))]


class Refused(unittest.TestCase):
    def test_refusals(self):
        frames = [((1, 1, 1),), [(2,)], ((1,), (2,))] + untrue(((1,),))
        places = [(C,), (B, A), [A], (A, A), A] + untrue((A,)) + listed((A,))
        more = {1: frames, 2: [21, "0"], 4: [5, "1"], 5: places}
        errors = [BadBox, BadFrame, BadMoves, None]
        box, frame, heard = TWO, ((2,),), HEARD
        refuse(self, is_run, [box, frame, 0, heard, None], errors + [None], more)
        refuse(self, may_stand, [box, frame, 20, heard], errors, more)
        refuse(self, surely, [box, frame, 0, heard, 4], errors + [BadAt], more)
        refuse(self, run_through, [box, frame, 0, heard, 0, (A,)], errors + [BadAt, BadStanding], more)
        refuse(self, fence, [box, frame, 0, heard, 1, (A,)], errors + [BadAt, BadStanding], more)
        refuse(self, is_fence, [box, frame, 0, heard, 1, (A,), None], errors + [BadAt, BadStanding, None], more)

    def bad_heard(self, heard, at, box=TWO, behind=True):
        for function, right, wrong in every_function():
            for rest in (right, wrong) if behind and wrong is not None else (right,):
                with self.assertRaises(BadHeard) as told:
                    function(box, ((2,),), 0, heard, *rest)
                self.assertEqual(told.exception.at, at, heard)

    def test_bad_heard(self):
        items = [("want", (1, 0)), ("want", (0, 2)), ("want", (0, 0)), ("end", C), ("break", C), ["want", (0, 1)],
                 ("want", [0, 1]), ("end", A, 0), ("end",), ("stand", A), ("want", A), ("end", (0, 1)), (A, "end"),
                 ("end", None), ("break", None), ("want", None), (None, A), ((), ())]
        items += untrue(WANT) + untrue(("end", A)) + listed(("break", B))
        for item in items + WRONG:
            for at in (0, 1, 4):
                self.bad_heard(HEARD[:at] + [item] + HEARD[at:] + [None], at, behind=at == 1)
                self.bad_heard(tuple(HEARD[:at]) + (item,), at, behind=False)
        # A switch breaks once; an end of what is broken may be heard.
        self.bad_heard([("break", A), WANT, ("break", B), ("break", A)], 3)
        self.bad_heard([("break", A), ("break", A)], 1)
        self.assertEqual(may_stand(TWO, ((2,),), 0, [("break", A), ("end", A)]), [[], [], []])
        for thing in [None, True, 7, "", "want", {}, {0: WANT}, plain(2, 2), [WANT] * 61, (WANT,) * 61, [None] * 61]:
            self.bad_heard(thing, None)

    def test_at(self):
        for heard in ([], HEARD):
            for function, rest in ((surely, ()), (run_through, ((),)), (fence, ((),)), (is_fence, ((), None))):
                for at in (-1, len(heard) + 1, None, "0", True, False, [0]):
                    with self.assertRaises(BadAt):
                        function(TWO, ((2,),), 0, heard, at, *rest)
                for at in (0, len(heard)):
                    function(TWO, ((2,),), 0, heard, at, *rest)

    def test_too_many(self):
        for function, right, wrong in every_function():
            function(tree_box(5000), EVERY, 0, [], *right)
            too_many(self, 5000, function, tree_box(5001), EVERY, 0, [], *right)
            # Ahead of NoRun.
            too_many(self, 5000, function, tree_box(5001), EVERY, 0, [WANT], *right)
            if wrong is not None:
                with self.assertRaises((BadAt, BadStanding)):
                    function(tree_box(5001), EVERY, 0, [], *wrong)
            with self.assertRaises(BadHeard):
                function(tree_box(5001), EVERY, 0, [None], *right)


if __name__ == "__main__":
    unittest.main()
