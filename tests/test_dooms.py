"""Points 51 and 52: dooms, the fewest moves, and what every keeping has."""

import random
import unittest

from allcalls.boxes import Box, crossed, full, plain, without
from allcalls.dooms import (are_common_papers, bait, common_papers, common_standings, doom, is_doom, is_moves_paper,
                            least_moves, lost, moves_paper)
from allcalls.errors import BadBarred, BadBox, BadFrame, BadMoves, BadStanding
from allcalls.frames import greatest_loads
from allcalls.keepings import greatest_keeping, is_keeping
from allcalls.loads import box_frame, way_for
from tests.helpers import (any_values, anew, ascending_dict, game_of, kept_of, listed, ranks_of, refuse, some_box,
                           some_frame, too_many, untrue)
from tests.test_frames import tree_box
from tests.test_keepings import EVERY, RING, some_games

A = ((0, 0), (1, 0))
B = ((0, 1), (1, 1))
C = ((0, 0), (2, 0))
PAIR = (0, 1)
WANT = ("want", PAIR)
# With ((0, 0), (1, 0)) and ((2, 1), (3, 1)) standing, 0 3 has no free switch.
SPLIT = (((0, 0), (1, 0)), ((2, 1), (3, 1)))


def is_doomed(game, barred, thing):
    """Whether a dict with standings as its keys and pairs of ranks and askings as its values is a doom."""
    if () in barred:
        return thing == {}
    return () in thing and not set(barred) & set(thing) and all(
        asking in game[way] and all(other in barred or other in thing and thing[other][0] < rank
                                    for other in game[way][asking])
        for way, (rank, asking) in thing.items())


class Dooms(unittest.TestCase):
    def test_small(self):
        self.assertEqual(doom(plain(2, 1), ((2,),), 20, ()), {(): (1, WANT), (A,): (0, WANT)})
        self.assertEqual(doom(plain(2, 1), ((1,),), 0, ((A,),)), {(): (0, WANT)})
        self.assertEqual(doom(plain(2, 1), ((1,),), 0, ((),)), {})
        self.assertIsNone(doom(plain(2, 1), ((1,),), 0, ()))
        # From (A, B) the end of A leads to what is barred, though nothing wanted is.
        self.assertEqual(doom(plain(2, 2), ((2,),), 0, ((B,),)),
                         {(): (2, WANT), (A,): (1, WANT), (A, B): (0, ("end", A))})
        anew(self, doom, plain(2, 1), ((2,),), 20, ())

    def test_some_games(self):
        both = [0, 0]
        for rnd, box, frame, moves, barred, game in some_games(53, 200):
            told, nodes = doom(box, frame, moves, barred), ranks_of(game, barred)
            kept = kept_of(game, barred)
            both[kept is None] += 1
            if kept is not None:
                self.assertIsNone(told)
                self.assertFalse(is_doom(box, frame, moves, barred, nodes))
            elif () in barred:
                self.assertEqual(told, {})
            else:
                self.assertEqual(told, nodes)
                ascending_dict(self, told)
            if told is not None:
                self.assertIs(is_doom(box, frame, moves, barred, told), True)
                self.spoiled(rnd, box, frame, moves, barred, game, told)
            if not barred:
                self.assertEqual(lost(box, frame, moves), list(nodes))
                for way in sorted(game):
                    self.assertEqual(bait(box, frame, moves, way), nodes[way][1] if way in nodes else None)
                    self.assertNotEqual(way in nodes, kept is not None and way in kept)
                if kept is None:
                    self.assertEqual(len(nodes), len(game))
        self.assertGreater(min(both), 30)

    def spoiled(self, rnd, box, frame, moves, barred, game, told):
        """Dooms with a key less, or another rank or asking, are judged as the words say."""
        for _ in range(4):
            if not told:
                return
            way = rnd.choice(list(told))
            less = {key: node for key, node in told.items() if key != way}
            other = {**told, way: (told[way][0] + rnd.choice([-1, 1, 5]), told[way][1])}
            asked = {**told, way: (told[way][0], rnd.choice(list(game[way])))}
            for thing in (less, other, asked):
                right = is_doomed(game, barred, thing) and all(rank >= 0 for rank, _ in thing.values())
                self.assertIs(is_doom(box, frame, moves, barred, thing), right)

    def test_what_is_no_doom(self):
        box, frame = plain(2, 1), ((2,),)
        right = {(): (1, WANT), (A,): (0, WANT)}
        self.assertIs(is_doom(box, frame, 0, (), right), True)
        self.assertIs(is_doom(box, frame, 0, (), {(A,): (7, WANT), (): (9, WANT)}), True)
        self.assertIs(is_doom(box, frame, 0, (), {(): (3, WANT), (A,): (2, WANT)}), True)
        self.assertIs(is_doom(box, frame, 0, ((A,),), {(): (0, WANT)}), True)
        self.assertIs(is_doom(box, frame, 0, ((A,),), right), False)
        self.assertIs(is_doom(box, frame, 0, ((),), {}), True)
        self.assertIs(is_doom(box, frame, 0, ((),), right), False)
        wrong = [
            {}, {(): (1, WANT)}, {(A,): (0, WANT)}, {(): (0, WANT), (A,): (0, WANT)}, {(): (0, WANT), (A,): (1, WANT)},
            {(): (1, WANT), (A,): (-1, WANT)}, {(): [1, WANT], (A,): (0, WANT)}, {(): (1, WANT, 0), (A,): (0, WANT)},
            {(): (1, WANT), (A,): (0, ("end", A))}, {(): (1, ("end", A)), (A,): (0, WANT)}, list(right.items()),
            {**right, 0: (1, WANT)}, {**right, (B,): (0, WANT)}, {(): (1, None), (A,): (0, WANT)}, None, (),
            {(): (1, ("want", (1, 0))), (A,): (0, WANT)}, {(): ("1", WANT), (A,): (0, WANT)}, {(): None, (A,): None},
            {**right, (A, A): (0, WANT)}, {**right, None: (0, WANT)},
        ]
        for thing in wrong + untrue(right) + listed(right) + any_values():
            self.assertIs(is_doom(box, frame, 0, (), thing), False, thing)
        for thing in (None, [], (), {0: 0}, {(): ()}):
            self.assertIs(is_doom(box, frame, 0, ((),), thing), False, thing)

    def test_refusals(self):
        box, frame = plain(2, 2), ((2,),)
        wrong = {2: [21], 3: [((B,), (A,)), [(A,)], ((A,), (A,)), (A,)] + untrue(((A,),)) + listed(((A,),))}
        refuse(self, doom, [box, frame, 1, ((A,),)], [BadBox, BadFrame, BadMoves, BadBarred], wrong)
        refuse(self, is_doom, [box, frame, 1, ((A,),), {}], [BadBox, BadFrame, BadMoves, BadBarred, None], wrong)
        wrong = {2: [21], 3: [(B, A), [A], A, (C,)] + untrue((A,)) + listed((A,))}
        refuse(self, bait, [box, frame, 1, (A,)], [BadBox, BadFrame, BadMoves, BadStanding], wrong)
        for function in (lost, common_standings, common_papers):
            refuse(self, function, [box, frame, 1], [BadBox, BadFrame, BadMoves], {2: [21, -1]})
        for function in (least_moves, moves_paper):
            refuse(self, function, [box, frame], [BadBox, BadFrame], {1: [((2,), (1,)), ((1, 1, 1),)]})
        refuse(self, is_moves_paper, [box, frame, None], [BadBox, BadFrame, None])
        refuse(self, are_common_papers, [box, frame, 0, None], [BadBox, BadFrame, BadMoves, None], {2: [21]})

    def test_too_many(self):
        just, more = tree_box(5000), tree_box(5001)
        calls = [(doom, (0, ()), BadBarred), (bait, (0, ()), BadStanding), (lost, (0,), BadMoves),
                 (least_moves, (), BadFrame), (moves_paper, (), BadFrame), (common_standings, (0,), BadMoves),
                 (common_papers, (0,), BadMoves)]
        for function, rest, error in calls:
            function(just, EVERY, *rest)
            too_many(self, 5000, function, more, EVERY, *rest)
            with self.assertRaises(error):
                function(*(more, EVERY, *rest)[:-1], None)
        self.assertIs(are_common_papers(just, EVERY, 0, {}), False)
        too_many(self, 5000, are_common_papers, more, EVERY, 0, None)
        for thing in ({}, None, {(): (0, ("want", (0, 3)))}):
            self.assertIs(is_doom(more, EVERY, 0, (), thing), False)
        self.assertIs(is_moves_paper(more, EVERY, None), False)
        # In this box no switch lies between the sides 0 and 1.
        self.assertIs(is_moves_paper(more, EVERY, (None, None, {(): (0, WANT)})), True)

    def test_judged_where_there_are_too_many(self):
        box = Box(5, 6, full(4, 6).switches)
        frame = ((4,) * 9 + (1,),)
        too_many(self, 5000, doom, box, frame, 0, ())
        # No switch at all lies between the sides 3 and 4.
        told = {(): (0, ("want", (3, 4)))}
        self.assertIs(is_doom(box, frame, 20, (), told), True)
        self.assertIs(is_moves_paper(box, frame, (None, None, told)), True)
        self.assertIs(is_doom(box, frame, 20, (), {(): (0, WANT)}), False)


class Examples(unittest.TestCase):
    def test_ring(self):
        box = plain(4, 2)
        lies = {(0, 1): 0, (2, 3): 0, (1, 2): 1, (0, 3): 1}
        wires = [((0, 0), (1, 0)), ((0, 1), (3, 1)), ((1, 1), (2, 1)), ((2, 0), (3, 0))]
        for low, high in wires:
            self.assertEqual(lies[(low[0], high[0])], low[1])
        keeping = [()]
        for wire in wires:
            keeping += [way + (wire,) for way in keeping]
        self.assertIs(is_keeping(box, RING, 0, (), tuple(sorted(keeping))), True)
        self.assertEqual(least_moves(box, RING), 0)
        self.assertIn(SPLIT, lost(box, RING, 0))
        self.assertEqual(bait(box, RING, 0, SPLIT), ("want", (0, 3)))
        self.assertNotIn(SPLIT, lost(box, RING, 1))
        self.assertIsNone(bait(box, RING, 1, SPLIT))
        self.assertEqual(ranks_of(game_of(box, RING, 0), ())[SPLIT], (0, ("want", (0, 3))))

    def test_all_loads(self):
        self.assertIsNone(least_moves(plain(3, 2), greatest_loads(3, 2)))
        self.assertEqual(least_moves(crossed(3, 2), greatest_loads(3, 2)), 0)


class Moves(unittest.TestCase):
    def games(self):
        """Boxes and frames of all kinds: in the latter all loads have ways, but some wires have to be moved."""
        rnd = random.Random(54)
        for _ in range(60):
            box = some_box(rnd, rnd.randint(2, 4), rnd.randint(2, 3), 9)
            yield box, some_frame(rnd, box.sides, 2, 2)
        for _ in range(24):
            base = rnd.choice([crossed(3, 3), crossed(4, 2), plain(3, 3), full(3, 2)])
            box = without(base, tuple(sorted(rnd.sample(base.switches, rnd.randint(0, 3)))))
            frame = tuple(load for load in box_frame(box) if rnd.random() < 0.8)
            yield box, frame or box_frame(box)

    def test_some_games(self):
        seen = set()
        for box, frame in self.games():
            kept = [kept_of(game_of(box, frame, moves), ()) for moves in range(5)]
            numbers = [moves for moves in range(5) if kept[moves] is not None]
            number = numbers[0] if numbers else None
            seen.add(number)
            self.assertEqual(least_moves(box, frame), number)
            self.assertEqual(number is None, any(way_for(box, load) is None for load in frame))
            if number is not None:
                self.assertLess(number, max([1] + [sum(load) for load in frame]))
            paper = moves_paper(box, frame)
            self.assertIs(type(paper), tuple)
            self.assertEqual(paper[0], number)
            if number is None:
                self.assertIsNone(paper[1])
                self.assertEqual(paper[2], doom(box, frame, 20, ()))
            else:
                self.assertEqual(paper[1], kept[number])
                self.assertEqual(paper[2], doom(box, frame, number - 1, ()) if number else None)
            self.assertIs(is_moves_paper(box, frame, paper), True)
            for wrong in (list(paper), paper[:2], paper + (None,), (7,) + paper[1:], (None,) + paper[1:],
                          (21,) + paper[1:], (paper[0], None, None), (paper[0], paper[2], paper[1])):
                if wrong != paper:
                    self.assertIs(is_moves_paper(box, frame, wrong), False)
        self.assertEqual({None, 0, 1, 2}, seen)

    def test_is_moves_paper(self):
        box, frame = plain(2, 3), ((2,),)
        right = (0, ((), (A,), (A, B), (B,)), None)
        self.assertIs(is_moves_paper(box, frame, right), True)
        for thing in [(0, right[1], {}), (1, right[1], None), (1, right[1], {}), (0, None, None), (0, (), None),
                      (-1, right[1], None), (21, right[1], {(): (0, WANT)}), (10 ** 9, right[1], None)]:
            self.assertIs(is_moves_paper(box, frame, thing), False, thing)
        for thing in untrue(right) + listed(right) + any_values():
            self.assertIs(is_moves_paper(box, frame, thing), False, thing)
        never = (None, None, {(): (1, WANT), (A,): (0, WANT)})
        self.assertIs(is_moves_paper(plain(2, 1), frame, never), True)
        for thing in untrue(never) + listed(never) + [(None, (), never[2]), (None, ((),), never[2]), (20, None, never[2])]:
            self.assertIs(is_moves_paper(plain(2, 1), frame, thing), False, thing)

    def test_two_moves_and_one_less(self):
        box, frame = crossed(3, 3), greatest_loads(3, 3)
        number, keeping, told = moves_paper(box, frame)
        self.assertGreater(number, 0)
        self.assertIs(is_moves_paper(box, frame, (number, keeping, told)), True)
        self.assertIs(is_moves_paper(box, frame, (number, keeping, None)), False)
        self.assertIs(is_moves_paper(box, frame, (number + 1, keeping, told)), False)
        self.assertIs(is_moves_paper(box, frame, (number - 1, keeping, told)), False)
        self.assertIs(is_moves_paper(box, frame, (True if number == 1 else False, keeping, told)), False)
        anew(self, moves_paper, box, frame)


class Common(unittest.TestCase):
    def test_some_games(self):
        for rnd, box, frame, moves, _, game in some_games(55, 80):
            kept = kept_of(game, ())
            common, papers = common_standings(box, frame, moves), common_papers(box, frame, moves)
            if kept is None:
                self.assertIsNone(common)
                self.assertIsNone(papers)
                self.assertIs(are_common_papers(box, frame, moves, {}), False)
                continue
            plainly = [way for way in kept if kept_of(game, (way,)) is None]
            self.assertEqual(common, plainly)
            self.assertEqual(list(papers), [way for way in kept if way != ()])
            self.assertEqual([()] + [way for way in papers if papers[way][0] == "common"], plainly)
            for way, (word, paper) in papers.items():
                judge = is_doom if word == "common" else is_keeping
                self.assertIs(judge(box, frame, moves, (way,), paper), True)
            self.assertIs(are_common_papers(box, frame, moves, papers), True)
            if papers:
                way = rnd.choice(list(papers))
                less = {key: paper for key, paper in papers.items() if key != way}
                other = {"common": "spared", "spared": "common"}[papers[way][0]]
                for thing in (less, {**papers, way: (other, papers[way][1])}, {**papers, (): ("common", {})}):
                    self.assertIs(are_common_papers(box, frame, moves, thing), False)

    def test_small(self):
        box, frame = plain(2, 2), ((2,),)
        self.assertEqual(common_standings(box, frame, 0), [(), (A,), (A, B), (B,)])
        self.assertEqual(common_standings(plain(2, 2), ((1,),), 0), [()])
        self.assertEqual(common_papers(Box(2, 1, ()), ((0,),), 0), {})
        self.assertIs(are_common_papers(Box(2, 1, ()), ((0,),), 0, {}), True)
        self.assertIs(are_common_papers(Box(2, 1, ()), ((1,),), 0, {}), False)
        anew(self, common_standings, box, frame, 0)
        anew(self, common_papers, box, frame, 0)

    def test_wrong_papers(self):
        box, frame = plain(2, 2), ((1,),)
        right = {(A,): ("spared", ((), (B,))), (B,): ("spared", ((), (A,)))}
        self.assertIs(are_common_papers(box, frame, 0, right), True)
        for thing in untrue(right) + listed(right) + any_values() + [list(right.items()), None, {}]:
            self.assertIs(are_common_papers(box, frame, 0, thing), False, thing)
        box = plain(2, 1)
        right = {(A,): ("common", {(): (0, WANT)})}
        self.assertIs(are_common_papers(box, frame, 0, right), True)
        for thing in untrue(right) + listed(right) + [{(A,): ("common", {(): (0, WANT)}, 0)}, {(A,): None}]:
            self.assertIs(are_common_papers(box, frame, 0, thing), False, thing)
        self.assertIs(greatest_keeping(box, frame, 0, ((A,),)), None)

    def test_crossed(self):
        box, frame = crossed(3, 3), greatest_loads(3, 3)
        papers = common_papers(box, frame, 1)
        self.assertIs(are_common_papers(box, frame, 1, papers), True)
        ascending_dict(self, papers)
        for word, paper in papers.values():
            if word == "common":
                ascending_dict(self, paper)


if __name__ == "__main__":
    unittest.main()
