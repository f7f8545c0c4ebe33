"""Point 171: what moves are worth in switches."""

import unittest

from allcalls.errors import BadFrame, BadSides, BadTracks
from allcalls.fewest import fewest_switches, meets
from allcalls.frames import greatest_loads
from allcalls.trades import are_trade_papers, trade, trade_papers
from tests.helpers import any_values, anew, listed, pairs_of, refuse, too_many, untrue
from tests.test_fewest import SIZES, TRADE, judged_tree, met_lots, meets_by_papers, some_wishes

A = ((0, 0), (1, 0))
B = ((0, 1), (1, 1))
C = ((0, 0), (1, 1))
D = ((0, 1), (1, 0))


def trade_told(sides, tracks, frame):
    """The list, wish by wish."""
    least = fewest_switches(sides, tracks, frame, ("loads",))
    found = []
    while least is not None and (not found or found[-1] > len(least)):
        found.append(len(fewest_switches(sides, tracks, frame, ("live", len(found)))))
    return found


def judged_papers(sides, tracks, frame, thing):
    """Whether a list of pairs of the right form is one of trade papers."""
    if not thing or any(len(switches) <= len(thing[-1][0]) for switches, _ in thing[:-1]):
        return False
    for index, (switches, tree) in enumerate(thing):
        wish = ("loads",) if index == len(thing) - 1 else ("live", index)
        met = set(met_lots(sides, tracks, frame, wish, meets_by_papers))
        if not meets_by_papers(sides, tracks, frame, ("live", index), switches):
            return False
        if not judged_tree(sides, tracks, met, set(), len(switches), tree):
            return False
    return True


class Trades(unittest.TestCase):
    def test_example(self):
        self.assertEqual(trade(3, 2, TRADE), [6, 4])
        papers = trade_papers(3, 2, TRADE)
        self.assertEqual([len(switches) for switches, _ in papers], [6, 4])
        self.assertIs(are_trade_papers(3, 2, TRADE, papers), True)
        self.assertIs(are_trade_papers(3, 2, TRADE, tuple(papers)), True)
        # The boxes that the example names.
        less = tuple(sorted([A, B, ((0, 1), (2, 0)), ((1, 1), (2, 1))]))
        more = tuple(sorted([A, B, ((0, 1), (2, 0)), ((0, 0), (2, 1)), ((1, 1), (2, 1)), ((1, 0), (2, 0))]))
        self.assertEqual([meets(3, 2, TRADE, wish, less) for wish in (("live", 0), ("live", 1))], [False, True])
        self.assertIs(meets(3, 2, TRADE, ("live", 0), more), True)
        other = [(more, papers[0][1]), (less, papers[1][1])]
        self.assertIs(are_trade_papers(3, 2, TRADE, other), True)
        self.assertIs(are_trade_papers(3, 2, TRADE, [(less, papers[0][1]), (more, papers[1][1])]), False)
        self.assertIs(are_trade_papers(3, 2, TRADE, other[::-1]), False)
        self.assertIs(are_trade_papers(3, 2, TRADE, other[:1]), False)
        self.assertIs(are_trade_papers(3, 2, TRADE, other[1:]), False)
        self.assertIs(are_trade_papers(3, 2, TRADE, other + other[1:]), False)

    def test_small(self):
        self.assertEqual(trade(2, 1, ((0,),)), [0])
        self.assertEqual(trade(2, 1, ((1,),)), [1])
        self.assertEqual(trade(2, 1, ((2,),)), [])
        self.assertIsNone(trade_papers(2, 1, ((2,),)))
        self.assertIs(are_trade_papers(2, 1, ((2,),), []), False)
        self.assertIs(are_trade_papers(2, 1, ((0,),), [((), [])]), True)
        self.assertIs(are_trade_papers(2, 1, ((1,),), [((A,), [()])]), True)
        self.assertIs(are_trade_papers(2, 1, ((1,),), [((A,), ((), {A: []}))]), True)
        self.assertIs(are_trade_papers(2, 1, ((1,),), [((A,), [])]), False)
        self.assertIs(are_trade_papers(2, 1, ((1,),), [((), [])]), False)
        # One switch shows no need of two.
        self.assertIs(are_trade_papers(2, 2, ((1,),), [((A, B), [(), ()])]), False)

    def test_some_trades(self):
        long = 0
        every = [(sides, tracks, frame) for _, sides, tracks, frame, _ in some_wishes(1710, 50, SIZES)]
        every += [(3, 2, frame) for frame in (((0, 2, 0), (1, 1, 1)), ((0, 0, 2), (1, 1, 1)), ((0, 1, 2), (1, 1, 1)))]
        for sides, tracks, frame in every:
            found, papers = trade(sides, tracks, frame), trade_papers(sides, tracks, frame)
            self.assertEqual(found, trade_told(sides, tracks, frame))
            self.assertEqual(papers is None, found == [])
            if papers is None:
                continue
            long += len(found) > 1
            self.assertEqual([len(switches) for switches, _ in papers], found)
            self.assertIs(are_trade_papers(sides, tracks, frame, papers), True)
            # Facts.
            self.assertEqual(found, sorted(found, reverse=True))
            self.assertLessEqual(len(found), max(1, max(map(sum, frame))))
            if sides == 2:
                self.assertEqual(len(found), 1)
            for switches, _ in papers:
                for k, (one, two) in enumerate(pairs_of(sides)):
                    between = sum((low[0], high[0]) == (one, two) for low, high in switches)
                    self.assertGreaterEqual(between, max(load[k] for load in frame))
            if len(papers) > 1:
                for thing in (papers[::-1], papers[1:], papers[:-1], papers + papers[-1:], papers[:1] * 2):
                    self.assertIs(are_trade_papers(sides, tracks, frame, thing), False)
            else:
                self.assertIs(are_trade_papers(sides, tracks, frame, papers * 2), False)
        self.assertGreater(long, 1)
        for sides, tracks in SIZES:
            self.assertGreater(len(trade(sides, tracks, greatest_loads(sides, tracks))), 0)

    def test_judged_plainly(self):
        seen = [0, 0]
        for rnd, sides, tracks, frame, _ in some_wishes(1711, 25, [(2, 1), (2, 2), (3, 1), (4, 1)]):
            papers = trade_papers(sides, tracks, frame) or [((), [])]
            for _ in range(5):
                thing = [(tuple(switch for switch in switches if rnd.random() < 0.95), tree) for switches, tree in papers]
                right = judged_papers(sides, tracks, frame, thing)
                self.assertIs(are_trade_papers(sides, tracks, frame, thing), right)
                seen[right] += 1
        self.assertGreater(min(seen), 15)

    def test_any_values(self):
        frame = ((2,),)
        right = [((A, B), [(A, C), (D, B)])]
        told = (2, 2, frame)
        self.assertIs(are_trade_papers(*told, right), True)
        wrong = [right[0], [right], [list(right[0])], [right[0] + ({},)], [right[0][:1]], [((B, A), right[0][1])],
                 [([A, B], right[0][1])], [((A, C), right[0][1])], [((A, B), None)], [((A, B, ((0, 2), (1, 2))), right[0][1])],
                 [None], [((A, B), [(A, C)])], {}, {0: right[0]}, None, (), right * 2, right + [None]]
        things = [thing for thing in untrue(right) + listed(right) if thing != right]
        for thing in wrong + things + any_values():
            self.assertIs(are_trade_papers(*told, thing), False, thing)
        self.assertIs(are_trade_papers(*told, [((A, B), ((A, C), (D, B)))]), True)
        anew(self, trade, 3, 2, TRADE)
        anew(self, trade_papers, 3, 2, TRADE)
        anew(self, trade_papers, 2, 3, ((2,),))

    def test_refusals(self):
        more = {0: [1, 6, "2"], 1: [0, 7, "1"], 2: [((1, 1, 1),), [(2,)], ((1,), (2,)), ((2,), (1,))] + untrue(((1,),))}
        for function, rest, kinds in ((trade, [], []), (trade_papers, [], []), (are_trade_papers, [None], [None])):
            refuse(self, function, [2, 2, ((2,),)] + rest, [BadSides, BadTracks, BadFrame] + kinds, more)
            for sides, tracks in ((2, 4), (3, 3), (4, 2), (5, 2), (5, 6)):
                too_many(self, 12, function, sides, tracks, ((0,) * len(pairs_of(sides)),), *rest)
                with self.assertRaises(BadFrame):
                    function(sides, tracks, ((0,),) if sides > 2 else ((0, 0),), *rest)
            for sides, tracks in SIZES:
                function(sides, tracks, ((0,) * len(pairs_of(sides)),), *rest)


if __name__ == "__main__":
    unittest.main()
