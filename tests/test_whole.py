"""Point 2: runs over the whole program."""

import random
import unittest

from allcalls.alikes import turned_asking, turned_box, turned_frame, turned_way
from allcalls.boxes import Box, crossed, full, plain
from allcalls.breakgames import break_doom, break_keeping, break_play, to_answer
from allcalls.budgets import budgets
from allcalls.dooms import least_moves, moves_paper
from allcalls.errors import CallError
from allcalls.exchange import Exchange
from allcalls.fewest import fewest_switches
from allcalls.frames import askings, greatest_loads
from allcalls.hearsay import fence, is_run, may_stand, run_through, surely
from allcalls.keepings import is_keeping
from allcalls.likes import first_like, likes, turns
from allcalls.loads import bar, is_bar, is_way_for, way_for
from allcalls.prices import calm_run, fewest_moved, most_moved
from allcalls.refuges import perils, safe_positions
from allcalls.texts import exchange_text, read_exchange
from allcalls.trades import trade, trade_papers
from allcalls.wholes import missing
from allcalls.worths import high_paper, low_paper, worth
from tests.helpers import every_load, some_box, some_frame
from tests.test_alikes import some_turn
from tests.test_fewest import TRADE
from tests.test_keepings import RING
from tests.test_worths import DEAR

GAMES = [(plain(4, 2), RING, 0, 0), (plain(4, 2), RING, 1, 1), (full(2, 2), ((2,),), 1, 1), (full(2, 2), ((2,),), 2, 2),
         (plain(2, 3), ((1,),), 0, 2), (full(3, 2), ((1, 1, 0),), 1, 1), (crossed(3, 2), greatest_loads(3, 2), 1, 0)]
GAMES += [(box, frame, moves, 0) for box, frame, _ in DEAR[:3] for moves in (0, 1)]


def asked_to(box, turn, asked):
    """What is asked, on the turned box."""
    if asked[0] == "break":
        return ("break", turned_way(box, turn, (asked[1],))[0])
    return turned_asking(box, turn, asked)


def led(rnd, told, steps):
    """An exchange that is answered by advice, while there is some, and asked anything; by peril() where one can."""
    box, frame, moves, number = told
    one = Exchange(*told)
    for _ in range(steps):
        danger = one.peril()
        asked = danger[1] if danger else rnd.choice(to_answer(box, frame, number, one.position()))
        one.ask(asked)
        choices = one.advice() or standings_of(one)
        if not choices:
            break
        one.answer(rnd.choice(choices))
    return one


def standings_of(one):
    """The standings that answer what is asked, of those of all positions."""
    found = []
    for standing in sorted({way for _, way in safe_positions(*told_of(one))} | {way for _, way in perils(*told_of(one))}):
        other = one.copy()
        try:
            other.answer(standing)
        except CallError:
            continue
        found.append(standing)
    return found


def told_of(one):
    return (one.box, one.frame, one.moves, one.number)


class Whole(unittest.TestCase):
    def test_led_exchanges(self):
        rnd, ends = random.Random(2), [0, 0]
        for told in GAMES * 2:
            one = led(rnd, told, 25)
            keeping = break_keeping(*told)
            self.assertEqual(keeping is not None, break_doom(*told) is None)
            ends[keeping is not None] += 1
            if keeping is not None:
                # Led by advice it is never without an answer.
                self.assertIsNone(one.asked())
                self.assertEqual(len(one), 50)
                self.assertIn(one.position(), keeping)
            else:
                self.assertIsNotNone(one.asked())
                self.assertEqual(one.peril()[0], 0)
                self.assertLessEqual(len(one.heard()), perils(*told)[((), ())][0])
            self.as_line(one)
            self.as_text(one)
            self.as_heard(one)
            self.turned(rnd, one)
            self.undone(one)
        self.assertGreater(min(ends), 3)

    def as_line(self, one):
        """What was asked and answered leads to the same position in a line of play."""
        asked = [what for word, what in one.log() if word == "ask"]
        line, gone = [], ()
        for what, standing in zip(asked, [what for word, what in one.log() if word == "answer"]):
            gone = tuple(sorted(gone + (what[1],))) if what[0] == "break" else gone
            line.append((what, (gone, standing)))
        self.assertEqual(break_play(*told_of(one), line), one.position())

    def as_text(self, one):
        other = read_exchange(exchange_text(one))
        self.assertEqual(other, one)
        self.assertEqual((other.peril(), other.moved(), other.heard()), (one.peril(), one.moved(), one.heard()))

    def as_heard(self, one):
        told = (one.box, one.frame, one.moves, one.heard())
        run = [()] + [standing for word, standing in one.log() if word == "answer"]
        self.assertIs(is_run(*told, run), True)
        for at, (standing, row) in enumerate(zip(run, may_stand(*told))):
            self.assertIn(standing, row)
            self.assertLessEqual(set(surely(*told, at)), set(standing))
            self.assertIsNone(fence(*told, at, standing))
            self.assertEqual(run_through(*told, at, standing)[at], standing)
        self.assertLessEqual(fewest_moved(*told), one.moved()[0])
        self.assertLessEqual(one.moved()[0], most_moved(*told))
        self.assertIs(is_run(*told, calm_run(*told)), True)

    def turned(self, rnd, one):
        """The same run on a turned box."""
        box = one.box
        turn = some_turn(rnd, box.sides, box.tracks)
        other = Exchange(turned_box(box, turn), turned_frame(box, turn, one.frame), one.moves, one.number)
        for word, what in one.log():
            if word == "ask":
                other.ask(asked_to(box, turn, what))
            else:
                other.answer(turned_way(box, turn, what))
            self.assertEqual(other.asked() is None, word == "answer")
        self.assertEqual(other.heard(), [asked_to(box, turn, what) for what in one.heard()])
        self.assertEqual(other.moved(), one.moved())
        self.assertEqual(other.is_safe(), one.is_safe())
        rows = may_stand(other.box, other.frame, other.moves, other.heard())
        self.assertEqual(rows, [sorted(turned_way(box, turn, way) for way in row)
                                for row in may_stand(box, one.frame, one.moves, one.heard())])
        self.assertEqual(len(exchange_text(other)), len(exchange_text(one)))

    def undone(self, one):
        """All can be taken back, deed by deed."""
        other = one.copy()
        states = [Exchange(*told_of(one))]
        for word, what in one.log():
            states.append(states[-1].copy())
            (states[-1].ask if word == "ask" else states[-1].answer)(what)
        for state in reversed(states):
            self.assertEqual(other, state)
            self.assertEqual((other.position(), other.asked(), other.moved(), other.heard()),
                             (state.position(), state.asked(), state.moved(), state.heard()))
            if len(other):
                other.undo()

    def test_trades_are_led_for_ever(self):
        rnd = random.Random(3)
        every = [(3, 2, TRADE), (2, 2, ((2,),)), (2, 3, ((3,),)), (3, 2, ((1, 1, 1),)), (4, 1, greatest_loads(4, 1)),
                 (5, 1, greatest_loads(5, 1)), (3, 1, ((1, 0, 0),))]
        for sides, tracks, frame in every:
            papers = trade_papers(sides, tracks, frame)
            self.assertEqual([len(switches) for switches, _ in papers], trade(sides, tracks, frame))
            for moves, (switches, _) in enumerate(papers):
                box = Box(sides, tracks, switches)
                self.assertLessEqual(least_moves(box, frame), moves)
                one = Exchange(box, frame, moves, 0)
                for _ in range(60):
                    one.ask(rnd.choice(askings(box, frame, one.position()[1])))
                    one.answer(rnd.choice(one.advice()))
                self.assertLessEqual(max_cost(one), moves)
                # With a switch less something is asked in vain.
                if len(switches):
                    less = Box(sides, tracks, switches[1:])
                    self.assertIs(Exchange(less, frame, moves, 0).is_safe(), False)
            self.assertEqual(len(fewest_switches(sides, tracks, frame, ("loads",))), len(papers[-1][0]))

    def test_loads_and_long_runs(self):
        """Ways or bars for all loads; keepings or dooms; and what it costs on the long run."""
        rnd = random.Random(4)
        for _ in range(25):
            box = some_box(rnd, rnd.randint(2, 4), rnd.randint(1, 2), 7)
            frame = some_frame(rnd, box.sides, 1, 2)
            for load in rnd.sample(every_load(box.sides, 1), min(8, 2 ** (box.sides * (box.sides - 1) // 2))):
                way, wall = way_for(box, load), bar(box, load)
                self.assertEqual(way is None, wall is not None)
                self.assertTrue(is_way_for(box, load, way) if wall is None else is_bar(box, load, wall))
            number, keeping, doom = moves_paper(box, frame)
            if missing(box, frame) is not None:
                self.assertIsNone(number)
                continue
            self.assertIs(is_keeping(box, frame, number, (), keeping), True)
            self.assertEqual(doom is None, number == 0)
            pair = worth(box, frame)
            self.assertEqual(pair == (0, 1), number == 0)
            low, high = low_paper(box, frame, pair), high_paper(box, frame, pair)
            self.assertIsNotNone(low)
            self.assertIsNotNone(high)
            self.assertEqual(budgets(box, frame, pair[0], pair[1]), low)

    def test_alike_boxes(self):
        """What is carried over to all boxes alike."""
        box, frame = DEAR[0][:2]
        every = likes(box)
        self.assertIn(box, every)
        for other in every[:12]:
            turn = turns(box, other)[0]
            self.assertEqual(worth(other, turned_frame(box, turn, frame)), worth(box, frame))
            self.assertEqual(first_like(other), every[0])


def max_cost(one):
    """The most wires that were moved in one answer."""
    most, before = 0, 0
    other = one.copy()
    sums = []
    while len(other):
        sums.append(other.moved()[0])
        other.undo()
    for total in reversed(sums):
        most, before = max(most, total - before), total
    return most


if __name__ == "__main__":
    unittest.main()
