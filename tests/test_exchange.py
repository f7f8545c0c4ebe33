"""Point 151: a live exchange."""

import random
import unittest

from allcalls.alikes import turned_asking, turned_box, turned_frame, turned_way
from allcalls.boxes import Box, full, plain
from allcalls.breakgames import positions
from allcalls.errors import (BadAnswer, BadAsking, BadBox, BadFrame, BadMoves, BadNumber, BadStanding, NothingDone,
                             NotNow)
from allcalls.exchange import Exchange
from allcalls.refuges import perils, safe_positions
from tests.helpers import (WRONG, any_values, count_load, greatest_of, listed, ranks_of, refuse, some_box, some_frame,
                           too_many, untrue)
from tests.test_alikes import some_turn
from tests.test_breakgames import JUST, break_game, some_games
from tests.test_frames import tree_box
from tests.test_keepings import EVERY, RING
from tests.test_worths import DEAR

A = ((0, 0), (1, 0))
B = ((0, 1), (1, 1))
C = ((0, 0), (1, 1))
D = ((0, 1), (1, 0))
WANT = ("want", (0, 1))
START = ((), ())


def state_of(one):
    """All that an exchange tells of what was done."""
    return (one.position(), one.asked(), one.log(), one.moved(), one.heard(), len(one))


class Retold:
    """An exchange on a game that is known whole, by the document's words."""

    def __init__(self, game):
        self.game = game
        self.deeds = []

    def position(self):
        place = START
        for k, (word, what) in enumerate(self.deeds):
            if word == "answer":
                asked = self.deeds[k - 1][1]
                gone = tuple(sorted(place[0] + (asked[1],))) if asked[0] == "break" else place[0]
                place = (gone, what)
            if word == "relay":
                place = (place[0], what)
        return place

    def asked(self):
        return self.deeds[-1][1] if self.deeds and self.deeds[-1][0] == "ask" else None

    def heard(self):
        return [self.deeds[k - 1][1] for k, (word, _) in enumerate(self.deeds) if word == "answer"]

    def moved(self):
        way, sums = (), [0, 0]
        for k, (word, what) in enumerate(self.deeds):
            if word == "answer":
                sums[0] += len(set(way) - set(what) - {self.deeds[k - 1][1][1]})
            if word == "relay":
                sums[1] += len(set(way) - set(what))
            way = what if word != "ask" else way
        return tuple(sums)

    def state(self):
        return (self.position(), self.asked(), self.deeds, self.moved(), self.heard(), len(self.deeds))

    def laid_anew(self, sides):
        gone, way = self.position()
        return [place[1] for place in self.game if place[0] == gone and count_load(sides, place[1]) == count_load(
            sides, way)]


def refused(case, error, call, *args):
    with case.assertRaises(error) as told:
        call(*args)
    case.assertIs(type(told.exception), error)
    return told.exception


def not_now(case, word, call, *args):
    case.assertEqual(refused(case, NotNow, call, *args).word, word)


class Deeds(unittest.TestCase):
    def test_example(self):
        one = Exchange(plain(4, 2), RING, 0, 0)
        p, q, r = ((0, 0), (1, 0)), ((2, 0), (3, 0)), ((2, 1), (3, 1))
        self.assertIsNone(one.ask(("want", (0, 1))))
        self.assertIsNone(one.answer((p,)))
        one.ask(("want", (2, 3)))
        self.assertEqual(one.advice(), [(p, q)])
        self.assertIs(one.is_safe(), True)
        self.assertIsNone(one.peril())
        one.answer((p, r))
        self.assertEqual(one.peril(), (0, ("want", (0, 3))))
        self.assertIs(one.is_safe(), False)
        self.assertEqual(one.repair(), (p, q))
        self.assertIsNone(one.relay((p, q)))
        self.assertEqual(one.moved(), (0, 1))
        self.assertIs(one.is_safe(), True)
        self.assertEqual(one.repair(), (p, q))

    def test_small(self):
        box, frame = plain(2, 2), ((2,),)
        one = Exchange(box, frame, 0, 1)
        self.assertEqual((one.box, one.frame, one.moves, one.number), (box, frame, 0, 1))
        self.assertEqual(state_of(one), (START, None, [], (0, 0), [], 0))
        one.ask(WANT)
        self.assertEqual(state_of(one), (START, WANT, [("ask", WANT)], (0, 0), [], 1))
        one.answer((A,))
        self.assertEqual(state_of(one), (((), (A,)), None, [("ask", WANT), ("answer", (A,))], (0, 0), [WANT], 2))
        one.relay((B,))
        self.assertEqual(state_of(one)[3:], ((0, 1), [WANT], 3))
        one.ask(("break", B))
        one.answer((A,))
        # The broken wire is not counted.
        self.assertEqual(state_of(one), (((B,), (A,)), None, one.log(), (0, 1), [WANT, ("break", B)], 5))
        refused(self, BadAsking, one.ask, ("break", A))
        one.ask(("end", A))
        one.answer(())
        self.assertEqual(one.position(), ((B,), ()))
        for many in range(7, 0, -1):
            self.assertEqual(len(one), many)
            self.assertIsNone(one.undo())
        self.assertEqual(one, Exchange(box, frame, 0, 1))
        refused(self, NothingDone, one.undo)

    def test_moved(self):
        one = Exchange(full(2, 2), ((2,),), 2, 2)
        for asked, standing in ((WANT, (A,)), (WANT, (C, D))):
            one.ask(asked)
            one.answer(standing)
        self.assertEqual(one.moved(), (1, 0))
        one.relay((C, D))
        self.assertEqual(one.moved(), (1, 0))
        one.relay((A, B))
        self.assertEqual(one.moved(), (1, 2))
        one.ask(("break", C))
        one.answer((A, B))
        self.assertEqual(one.moved(), (1, 2))
        one.ask(("end", A))
        one.answer((B,))
        self.assertEqual(one.moved(), (1, 2))
        one.ask(("break", B))
        one.answer((A,))
        self.assertEqual(one.moved(), (1, 2))
        self.assertEqual(one.position(), ((C, B), (A,)))
        one.undo()
        self.assertEqual((one.asked(), one.moved(), one.position()), (("break", B), (1, 2), ((C,), (B,))))

    def test_some_runs(self):
        refusals = 0
        for rnd, box, frame, moves, number in some_games(151, 60):
            game = break_game(box, frame, moves, number)
            one, plainly = Exchange(box, frame, moves, number), Retold(game)
            copies = []
            for _ in range(30):
                refusals += self.step(rnd, box, one, plainly)
                self.assertEqual(state_of(one), plainly.state())
                if rnd.random() < 0.1:
                    copies.append((one.copy(), list(plainly.deeds)))
            for other, deeds in copies:
                self.assertEqual(other.log(), deeds)
                self.assertIs(other == one, deeds == plainly.deeds)
                for _ in deeds:
                    other.undo()
                refused(self, NothingDone, other.undo)
            self.assertEqual(one.log(), plainly.deeds)
        self.assertGreater(refusals, 300)

    def step(self, rnd, box, one, plainly):
        """Do some deed, or one that is refused; tell whether it was refused."""
        place, asked = plainly.position(), plainly.asked()
        kind = rnd.choice(["ask", "answer", "ask", "answer", "relay", "undo", "wrong"])
        every = sorted({other[1] for other in plainly.game})
        if kind == "undo":
            if not plainly.deeds:
                refused(self, NothingDone, one.undo)
                return True
            one.undo()
            plainly.deeds.pop()
            return False
        if kind == "ask" or (kind == "wrong" and rnd.random() < 0.5):
            what = rnd.choice([("want", (0, 1)), ("end", rnd.choice(box.switches)), ("break", rnd.choice(box.switches))])
            what = rnd.choice(list(plainly.game[place]) + [what]) if kind == "ask" else what
            if asked is not None:
                not_now(self, "asked", one.ask, what)
                return True
            if what not in plainly.game[place]:
                refused(self, BadAsking, one.ask, what)
                return True
            one.ask(what)
            plainly.deeds.append(("ask", what))
            return False
        if kind == "relay":
            right = plainly.laid_anew(box.sides)
            what = rnd.choice(right + [rnd.choice(every)])
            if asked is not None:
                not_now(self, "asked", one.relay, what)
                return True
            if what not in right:
                refused(self, BadStanding, one.relay, what)
                return True
            one.relay(what)
            plainly.deeds.append(("relay", what))
            return False
        if asked is None:
            not_now(self, "free", one.answer, rnd.choice(every))
            return True
        right = [other[1] for other in plainly.game[place][asked]]
        what = rnd.choice(right + [rnd.choice(every)])
        if what not in right:
            refused(self, BadAnswer, one.answer, what)
            return True
        one.answer(what)
        plainly.deeds.append(("answer", what))
        return False

    def test_copies_go_apart(self):
        one = Exchange(plain(2, 2), ((2,),), 0, 1)
        one.ask(WANT)
        other = one.copy()
        self.assertIsInstance(other, Exchange)
        self.assertEqual(other, one)
        other.answer((A,))
        one.answer((B,))
        self.assertFalse(other == one)
        self.assertTrue(other != one)
        self.assertEqual((one.position()[1], other.position()[1]), ((B,), (A,)))
        other.undo()
        other.answer((B,))
        self.assertEqual(other, one)
        one.undo()
        one.undo()
        self.assertEqual((len(one), len(other)), (0, 2))

    def test_what_is_returned_is_new(self):
        one = Exchange(plain(2, 2), ((2,),), 0, 1)
        one.ask(WANT)
        one.log().append("spoiled")
        one.heard().append("spoiled")
        one.advice().append("spoiled")
        self.assertEqual(one.log(), [("ask", WANT)])
        self.assertEqual(one.heard(), [])
        self.assertEqual(one.advice(), [])
        one.answer((A,))
        one.heard().clear()
        self.assertEqual(one.heard(), [WANT])
        other = Exchange(plain(2, 2), ((2,),), 0, 0)
        other.ask(WANT)
        other.advice().clear()
        self.assertEqual(other.advice(), [(A,), (B,)])

    def test_equality(self):
        args = (plain(2, 2), ((2,),), 0, 1)
        one = Exchange(*args)
        self.assertTrue(one == Exchange(Box(2, 2, (A, B)), ((2,),), 0, 1))
        self.assertFalse(one != Exchange(*args))
        others = [(full(2, 2), ((2,),), 0, 1), (plain(2, 2), ((1,),), 0, 1), (plain(2, 2), ((2,),), 1, 1),
                  (plain(2, 2), ((2,),), 0, 2)]
        for other in others:
            self.assertFalse(one == Exchange(*other))
            self.assertTrue(one != Exchange(*other))
        for thing in any_values() + [None, 0, [], (), plain(2, 2), list(args), args]:
            self.assertFalse(one == thing)
            self.assertTrue(one != thing)
            self.assertFalse(thing == one)
        other = one.copy()
        other.ask(WANT)
        self.assertFalse(one == other)
        self.assertFalse(plain(2, 2) == one)
        self.assertEqual(len(one), 0)
        self.assertEqual(len(other), 1)


class Refused(unittest.TestCase):
    def test_init(self):
        more = {1: [((1, 1, 1),), [(2,)], ((1,), (2,))] + untrue(((1,),)), 2: [21, "0"], 3: [7, "1"]}
        refuse(self, Exchange, [plain(2, 2), ((2,),), 20, 6], [BadBox, BadFrame, BadMoves, BadNumber], more)
        named = Exchange(number=1, moves=0, frame=((2,),), box=plain(2, 2))
        self.assertEqual(named, Exchange(plain(2, 2), ((2,),), 0, 1))

    def test_deeds(self):
        one = Exchange(plain(2, 2), ((2,),), 0, 1)
        bad = [("want", (1, 0)), ("want", (0, 2)), ["want", (0, 1)], ("want", [0, 1]), ("end", A), ("break", C), WANT + (0,),
               ("ask", WANT), ("end", None), ("break", None), ("want", A), (WANT, WANT)]
        before = state_of(one)
        for thing in bad + WRONG + any_values() + untrue(WANT) + untrue(("break", A)) + listed(("break", A)) + [one]:
            refused(self, BadAsking, one.ask, thing)
            self.assertEqual(state_of(one), before)
        for thing in (None, (A,), 7):
            not_now(self, "free", one.answer, thing)
        not_now(self, "free", one.advice)
        places = [(A,), (B, A), [], None, ((),), ((True, 0),)]
        for thing in places + WRONG + any_values() + [one]:
            if thing != ():
                refused(self, BadStanding, one.relay, thing)
                self.assertEqual(state_of(one), before)
        one.relay(())
        self.assertEqual(one.log(), [("relay", ())])
        one.ask(asked=WANT)
        before = state_of(one)
        for thing in (None, WANT, ("break", A)):
            not_now(self, "asked", one.ask, thing)
            not_now(self, "asked", one.relay, thing)
        not_now(self, "asked", one.repair)
        wrong = [(), (A, B), (C,), [A], A, ((A,),), (A, A)] + untrue((A,)) + untrue((B,)) + listed((A,))
        for thing in wrong + WRONG + any_values() + [one]:
            refused(self, BadAnswer, one.answer, thing)
            self.assertEqual(state_of(one), before)
        one.answer(standing=(A,))
        one.relay(standing=(B,))
        for thing in [(), (A, B), (C,), [A], (B, A)] + untrue((A,)) + untrue((B,)) + listed((A,)) + WRONG:
            if thing != (A,):
                refused(self, BadStanding, one.relay, thing)
        one.ask(("break", A))
        refused(self, BadAnswer, one.answer, (A,))
        one.answer((B,))
        refused(self, BadStanding, one.relay, (A,))

    def test_wide_exchanges(self):
        # With more than 5000 positions deeds go all the same; what looks ahead is refused behind NotNow.
        for box, frame, number in ((full(2, 6), ((6,),), 6), (tree_box(5001), EVERY, 0), JUST[(5001, 4)] + (4,)):
            one = Exchange(box, frame, 20, number)
            self.looks(one, "free")
            first = one_asked(one)
            one.ask(first)
            self.looks(one, "asked")
            answer = answer_to(one, first)
            one.answer(answer)
            one.relay(answer)
            self.assertEqual(len(one), 3)
            self.looks(one, "free")
            other = one.copy()
            other.undo()
            self.looks(other, "free")
            self.assertEqual(len(one), 3)
        just = Exchange(*JUST[(5000, 4)], 0, 4)
        self.assertIs(just.is_safe(), False)

    def looks(self, one, word):
        too_many(self, 5000, one.is_safe)
        too_many(self, 5000, one.peril)
        if word == "free":
            not_now(self, "free", one.advice)
            too_many(self, 5000, one.repair)
        else:
            not_now(self, "asked", one.repair)
            too_many(self, 5000, one.advice)


def one_asked(one):
    """A want between two sides that some switch joins."""
    low, high = one.box.switches[0]
    return ("want", (low[0], high[0]))


def answer_to(one, asked):
    return tuple(switch for switch in one.box.switches[:1])


def chosen_games(seed, many):
    """Some games, and some in which wires may stand well or badly."""
    rnd = random.Random(seed)
    yield from some_games(seed, many, 120)
    for _ in range(4):
        yield rnd, plain(4, 2), RING, 0, 0
        for number in (0, 1):
            yield rnd, full(2, 2), ((2,),), 1, number
        yield rnd, full(2, 2), ((1,),), 0, 2
        yield rnd, full(3, 2), ((1, 1, 0),), 1, 1
        for box, frame, _ in DEAR[:3]:
            for moves in (0, 1):
                yield rnd, box, frame, moves, 0


class Ahead(unittest.TestCase):
    def test_some_outlooks(self):
        seen = {}
        for rnd, box, frame, moves, number in chosen_games(152, 50):
            game = break_game(box, frame, moves, number)
            safe, lost = greatest_of(game), ranks_of(game, ())
            one, plainly = Exchange(box, frame, moves, number), Retold(game)
            for _ in range(20):
                self.look(one, plainly, safe, lost, seen)
                Deeds.step(self, rnd, box, one, plainly)
        for kind in ("advice", "no advice", "peril", "peril asked", "stuck", "no repair", "stays"):
            self.assertGreater(seen[kind], 5, kind)

    def test_repair(self):
        rnd, seen = random.Random(157), {}
        box_more = Box(3, 2, ((A[0], A[1]), ((0, 0), (2, 1)), ((0, 1), (1, 1)), ((0, 1), (2, 0)), ((1, 0), (2, 0)),
                              ((1, 1), (2, 1))))
        for box, frame, number in ((plain(4, 2), RING, 0), (box_more, ((1, 1, 1), (2, 0, 0)), 0), (full(3, 2), (
                (1, 1, 1), (2, 0, 0)), 0), (full(2, 2), ((2,),), 2)) + tuple((box, frame, 0) for box, frame, _ in DEAR[1:3]):
            for moves in (0, 1):
                game = break_game(box, frame, moves, number)
                safe, lost = greatest_of(game), ranks_of(game, ())
                one, plainly = Exchange(box, frame, moves, number), Retold(game)
                for _ in range(300):
                    place = plainly.position()
                    asked = rnd.choice([other for other in game[place] if game[place][other]] or [None])
                    if asked is None or rnd.random() < 0.1:
                        while plainly.deeds and rnd.random() < 0.9:
                            plainly.deeds.pop()
                            one.undo()
                        if one.asked() is not None:
                            plainly.deeds.pop()
                            one.undo()
                        continue
                    standing = rnd.choice(game[place][asked])[1]
                    one.ask(asked)
                    one.answer(standing)
                    plainly.deeds += [("ask", asked), ("answer", standing)]
                    self.look(one, plainly, safe, lost, seen)
        self.assertGreater(seen["repair"], 20)
        self.assertGreater(seen["no repair"], 50)

    def look(self, one, plainly, safe, lost, seen):
        place, asked = plainly.position(), plainly.asked()
        if asked is None:
            self.assertIs(one.is_safe(), place in safe)
            self.assertEqual(one.peril(), lost.get(place))
            not_now(self, "free", one.advice)
            seen["peril"] = seen.get("peril", 0) + (place in lost)
            can = [way for way in plainly.laid_anew(one.box.sides) if (place[0], way) in safe]
            best = min(can, key=lambda way: (len(set(place[1]) - set(way)), way)) if can else None
            self.assertEqual(one.repair(), best)
            kind = "no repair" if best is None else "stays" if best == place[1] else "repair"
            seen[kind] = seen.get(kind, 0) + 1
            return
        found = plainly.game[place][asked]
        good = [other[1] for other in found if other in safe]
        self.assertEqual(one.advice(), good)
        self.assertIs(one.is_safe(), bool(good))
        not_now(self, "asked", one.repair)
        kind = "advice" if good else "no advice"
        seen[kind] = seen.get(kind, 0) + 1
        if good:
            self.assertIsNone(one.peril())
        else:
            rank = max([lost[other][0] + 1 for other in found], default=0)
            self.assertEqual(one.peril(), (rank, asked))
            seen["stuck" if not found else "peril asked"] = seen.get("stuck" if not found else "peril asked", 0) + 1

    def test_advice_is_never_without(self):
        done = 0
        for rnd, box, frame, moves, number in chosen_games(153, 80):
            game = break_game(box, frame, moves, number)
            safe = greatest_of(game)
            one, plainly = Exchange(box, frame, moves, number), Retold(game)
            # Whatever was done before.
            for _ in range(12):
                Deeds.step(self, rnd, box, one, plainly)
            while one.asked() is not None or not one.is_safe():
                if not len(one):
                    break
                one.undo()
            if not one.is_safe():
                continue
            done += 1
            for _ in range(30):
                one.ask(rnd.choice(list(game[one.position()])))
                choices = one.advice()
                self.assertTrue(choices)
                one.answer(rnd.choice(choices))
                self.assertIs(one.is_safe(), True)
        self.assertGreater(done, 25)

    def test_peril_falls(self):
        done = 0
        for rnd, box, frame, moves, number in chosen_games(154, 80):
            game = break_game(box, frame, moves, number)
            one = Exchange(box, frame, moves, number)
            if one.is_safe():
                continue
            done += 1
            rank, asked = one.peril()
            while True:
                one.ask(asked)
                self.assertEqual(one.peril(), (rank, asked))
                found = game[one.position()][asked]
                if not found:
                    self.assertEqual(rank, 0)
                    break
                one.answer(rnd.choice(found)[1])
                less, asked = one.peril()
                self.assertLess(less, rank)
                rank = less
        self.assertGreater(done, 15)

    def test_as_refuges_tell(self):
        box, frame = full(2, 2), ((2,),)
        safe, lost = safe_positions(box, frame, 1, 2), perils(box, frame, 1, 2)
        one = Exchange(box, frame, 1, 2)
        self.assertEqual(sorted(safe + list(lost)), positions(box, frame, 2))
        self.assertEqual(one.peril(), lost[START])
        one.ask(("break", A))
        one.answer(())
        one.ask(("break", B))
        one.answer(())
        self.assertEqual(one.is_safe(), ((A, B), ()) in safe)

    def test_turned(self):
        """A turn of the box takes an exchange along."""
        rnd = random.Random(155)
        done = 0
        while done < 25:
            box = some_box(rnd, rnd.randint(2, 4), rnd.randint(1, 2), 6)
            frame, turn = some_frame(rnd, box.sides, 2, 2), some_turn(rnd, box.sides, box.tracks)
            moves, number = rnd.randint(0, 2), rnd.randint(0, 1)
            if len(positions(box, frame, number)) > 150:
                continue
            done += 1
            game = break_game(box, frame, moves, number)
            one, plainly = Exchange(box, frame, moves, number), Retold(game)
            other = Exchange(turned_box(box, turn), turned_frame(box, turn, frame), moves, number)
            for _ in range(20):
                Deeds.step(self, rnd, box, one, plainly)
                self.follow(box, turn, one, other)

    def follow(self, box, turn, one, other):
        def asked_to(asked):
            if asked is None or asked[0] != "break":
                return asked and turned_asking(box, turn, asked)
            return ("break", turned_way(box, turn, (asked[1],))[0])

        log = [(word, asked_to(what) if word == "ask" else turned_way(box, turn, what)) for word, what in one.log()]
        while len(other) > len(log) or other.log() != log[:len(other)]:
            other.undo()
        for word, what in log[len(other):]:
            {"ask": other.ask, "answer": other.answer, "relay": other.relay}[word](what)
        self.assertEqual(other.moved(), one.moved())
        self.assertEqual(other.is_safe(), one.is_safe())
        self.assertEqual(other.asked(), asked_to(one.asked()))
        self.assertEqual(other.peril() and other.peril()[0], one.peril() and one.peril()[0])
        if one.asked() is not None:
            self.assertEqual(other.advice(), sorted(turned_way(box, turn, way) for way in one.advice()))
        else:
            self.assertEqual(other.repair() is None, one.repair() is None)


if __name__ == "__main__":
    unittest.main()
