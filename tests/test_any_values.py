"""Right papers and arguments with any value put into each place: judges tell, and wrong arguments are refused."""

import unittest

from allcalls.aheads import ahead_doom, ahead_keeping, is_ahead_doom, is_ahead_keeping, longer
from allcalls.alikes import is_turn, turned_asking, turned_box, turned_frame, turned_load, turned_way
from allcalls.blocks import block_doom, block_keeping, effect, is_block_doom, is_block_keeping
from allcalls.boxes import Box, plain
from allcalls.breakgames import break_answers, break_doom, break_keeping, break_play, is_break_doom, is_break_keeping
from allcalls.breakgames import to_answer
from allcalls.breaks import are_frame_trees, breaks, frame_trees, is_way_tree, left_frame, matters, way_left, way_tree
from allcalls.budgets import budgets, is_budgets, is_ruin, ruin
from allcalls.bursts import burst_answers, burst_doom, burst_keeping, bursts, is_burst_doom, is_burst_keeping
from allcalls.dooms import doom
from allcalls.errors import (BadAnswer, BadAsking, BadBurst, BadCaps, BadDoom, BadExchange, BadFit, BadFrame, BadHeard,
                             BadKeeping, BadLine, BadLoad, BadLot, BadMutes, BadPair, BadPosition, BadRow, BadSome,
                             BadStanding, BadSwitch, BadSwitches, BadText, BadTree, BadTrial, BadTrials, BadTurn, BadWay,
                             BadWish)
from allcalls.exchange import Exchange
from allcalls.fewest import is_short_tree, meets, short_tree
from allcalls.fits import doom_back, fitted_frame, fitted_keeping, is_fit
from allcalls.foreseen import behind, dead_row, family, is_dead, is_family
from allcalls.hearsay import is_fence, is_run, may_stand, run_through
from allcalls.hunts import foe, is_trials_paper, suspects, trials_paper
from allcalls.partings import is_bar_of, is_parting, parting
from allcalls.prices import are_prices, fewest_moved
from allcalls.refuges import are_perils, is_refuge, perils
from allcalls.texts import exchange_text, read_exchange
from allcalls.trades import are_trade_papers, trade_papers
from allcalls.trials import left, told, twins
from allcalls.tries import are_tries, is_shield, tries
from allcalls.worths import cheap, high_paper, is_high, is_low, low_paper
from tests.helpers import deep

ONE, TWO, THREE = plain(2, 1), plain(2, 2), plain(2, 3)
EMPTY = Box(2, 1, ())
A = ((0, 0), (1, 0))
B = ((0, 1), (1, 1))
C = ((0, 2), (1, 2))
WANT = ("want", (0, 1))
TURN = ((1, 0), ((0, 1), (1, 0)))
SIDES = ((1, 0, 2), ((0,), (0,), (0,)))
HEARD = [((A, B), True), ((A,), True)]
# Example B of the document, where what comes is to be moved.
B_BOX = Box(3, 2, (A, ((0, 0), (2, 0)), B, ((1, 1), (2, 0))))
B_FRAME = ((1, 0, 1), (1, 1, 0))

# Something is asked of it.
ASKED = Exchange(TWO, ((2,),), 0, 1)
ASKED.ask(WANT)

ANY = [
    None, True, False, 0, 1, -1, 10 ** 9 - 1, "", "want", "share", "numbers", "mutes", (), [], {}, EMPTY, (EMPTY,),
    {"a": EMPTY}, ((EMPTY,), EMPTY), (None,), {None: None}, {True: 1}, A, [[0, 0], [1, 0]], ((0, 0), (1, True)), WANT,
    ("end", A), (0, WANT), deep(80), ((), ()), (((),),), {(): ()}, ("numbers", (1,)), ("numbers", {(): 1}),
    ("mutes", ()), ("share", A), ASKED, {"a": ASKED}, ((ASKED,), ASKED),
]

# Judges, what they are asked besides, and a thing that is right.
PAPERS = [
    (is_ahead_keeping, (TWO, ((1,),), 0, 1), ahead_keeping(TWO, ((1,),), 0, 1)),
    (is_ahead_doom, (ONE, ((2,),), 0, 1), ahead_doom(ONE, ((2,),), 0, 1)),
    (is_dead, (ONE, ((2,),), 0), dead_row(ONE, ((2,),), 0)),
    (is_family, (TWO, ((1,),), 0), family(TWO, ((1,),), 0)),
    (is_block_keeping, (ONE, ((1,),), 0), block_keeping(ONE, ((1,),), 0)),
    (is_block_doom, (EMPTY, ((1,),), 0), block_doom(EMPTY, ((1,),), 0)),
    (is_burst_keeping, (TWO, ((1,),), 0, 2), burst_keeping(TWO, ((1,),), 0, 2)),
    (is_burst_doom, (ONE, ((2,),), 0, 1), burst_doom(ONE, ((2,),), 0, 1)),
    (is_way_tree, (THREE, (2,), 1), way_tree(THREE, (2,), 1)),
    (are_frame_trees, (plain(3, 2), ((0, 0, 1), (1, 0, 0)), 1), frame_trees(plain(3, 2), ((0, 0, 1), (1, 0, 0)), 1)),
    (is_break_keeping, (TWO, ((1,),), 0, 1), break_keeping(TWO, ((1,),), 0, 1)),
    (is_break_doom, (ONE, ((1,),), 0, 1), break_doom(ONE, ((1,),), 0, 1)),
    (is_parting, (THREE, ((2,),), (A, B, C), [2, 1]), [(A, B), (C,)]),
    (is_bar_of, (THREE, ((2,),), (A, B, C), [1, 1]), {
        ((), ()): ("share", A), ((A,), ()): ("numbers", (0, 1, 1)), ((), (A,)): ("numbers", (0, 1, 1))}),
    (is_trials_paper, (THREE, ((2,),), "whole"), trials_paper(THREE, ((2,),), "whole")),
    (are_tries, (THREE, (2,), 1), tries(THREE, (2,), 1)),
    (is_shield, (THREE, (2,), 1, 2), {(): ("mutes", (A,)), ((B, C),): ("numbers", {(B,): 1, (C,): 1})}),
    (is_turn, (2, 2), TURN),
    (is_fit, (TWO, THREE), ((1, 0), ((2, 0), (2, 0)))),
    (is_low, (TWO, ((1,),), (1, 2)), low_paper(TWO, ((1,),), (1, 2))),
    (is_high, (TWO, ((1,),), (0, 1)), high_paper(TWO, ((1,),), (0, 1))),
    (is_budgets, (TWO, ((1,),), 0, 1), budgets(TWO, ((1,),), 0, 1)),
    (is_ruin, (B_BOX, B_FRAME, 0, 1, 0), ruin(B_BOX, B_FRAME, 0, 1, 0)),
    (is_refuge, (TWO, ((1,),), 0, 1), (((A,), ()), ((A,), (B,)))),
    (are_perils, (ONE, ((1,),), 0, 1), perils(ONE, ((1,),), 0, 1)),
    (is_run, (TWO, ((2,),), 0, [WANT, ("end", A)]), [(), (A,), ()]),
    (is_fence, (TWO, ((2,),), 0, [WANT, ("end", B), WANT], 1, (A, B)), ("before", [[()], [(A,), (B,)]])),
    (is_fence, (TWO, ((2,),), 0, [WANT, ("end", B), WANT], 1, (A,)), ("behind", [[(A,)], [], []])),
    (are_prices, (TWO, ((2,),), 0, [WANT, ("break", A)], 0), [{(): 0}, {(A,): 0, (B,): 0}, {(B,): 0}]),
    (is_short_tree, (2, 2, ((2,),), ("live", 0), 2), short_tree(2, 2, ((2,),), ("live", 0), 2)),
    (is_short_tree, (2, 1, ((1,),), ("loads",), 1), ((), {A: []})),
    (are_trade_papers, (2, 2, ((2,),)), trade_papers(2, 2, ((2,),))),
]


def ask(thing):
    other = ASKED.copy()
    other.undo()
    other.ask(thing)


def answer(thing):
    ASKED.copy().answer(thing)


def relay(thing):
    other = ASKED.copy()
    other.answer((B,))
    other.relay(thing)


# Functions, what stands ahead of a right argument, the argument, what stands behind it, and what else is raised.
ARGUMENTS = [
    (behind, (TWO, ((2,),), 1), (WANT, ("end", (0, 1), 0)), (), BadRow),
    (effect, (TWO, ((2,),), 1, (1,)), (("end", (0, 1), 0), WANT), (), BadRow),
    (longer, (TWO, ((1,),), 0, 0), ahead_keeping(TWO, ((1,),), 0, 0), (), BadKeeping),
    (bursts, (TWO, ((2,),), 2), (A,), (), BadStanding),
    (burst_answers, (TWO, ((2,),), 1, 2, (A,)), ((A,), (1,)), (), BadBurst),
    (breaks, (TWO, (1,)), (A, B), (), BadLot),
    (way_left, (TWO, (1,), (A,)), ((A,), {A: ((B,), {})}), (), BadTree),
    (left_frame, (TWO, ((1,),)), (A,), (), BadLot),
    (matters, (TWO, ((1,),)), A, (), BadSwitch),
    (to_answer, (TWO, ((2,),), 1), ((A,), (B,)), (), BadPosition),
    (break_answers, (TWO, ((2,),), 1, 1, ((A,), (B,))), ("end", B), (), BadAsking),
    (break_play, (TWO, ((2,),), 0, 1), [(WANT, ((), (A,))), (("break", A), ((A,), (B,)))], (), BadLine),
    (told, (TWO, ((2,),), "each"), (A, B), ((A,),), BadMutes),
    (told, (TWO, ((2,),), "each", (A,)), (A, B), (), BadTrial),
    (left, (TWO, ((2,),), "whole", 1), HEARD, (), BadHeard),
    (left, (TWO, ((2,),), "each", 1), [((A, B), (A,))], (), BadHeard),
    (twins, (TWO, ((2,),), "whole", 1), [(A, B), (A,)], (), BadTrials),
    (parting, (TWO, ((2,),)), (A, B), ([1, 1],), BadSome),
    (parting, (TWO, ((2,),), (A, B)), [1, 2], (), BadCaps),
    (suspects, (TWO,), ((2,),), ([],), BadFrame),
    (suspects, (TWO, ((2,),)), HEARD, (), BadHeard),
    (foe, (TWO, ((2,),), []), (A,), (), BadTrial),
    (turned_box, (TWO,), TURN, (), BadTurn),
    (turned_way, (TWO, TURN), (A, B), (), BadWay),
    (turned_load, (plain(3, 1), SIDES), (1, 0, 1), (), BadLoad),
    (turned_frame, (plain(3, 1), SIDES), ((1, 0, 1),), (), BadFrame),
    (turned_asking, (TWO, TURN), ("end", A), (), BadAsking),
    (fitted_frame, (TWO, THREE), ((1, 0), ((2, 0), (2, 0))), (((1,),),), BadFit),
    (fitted_keeping, (ONE, TWO, ((1, 0), ((1,), (1,))), ((1,),), 0), ((), (A,)), (), BadKeeping),
    (doom_back, (ONE, TWO, ((1, 0), ((1,), (1,))), ((3,),), 0), doom(TWO, ((3,),), 0, ()), (), BadDoom),
    (cheap, (TWO, ((2,),)), (A,), (WANT,), BadStanding),
    (cheap, (TWO, ((2,),), (A,)), ("end", A), (), BadAsking),
    (low_paper, (TWO, ((2,),)), (1, 2), (), BadPair),
    (may_stand, (TWO, ((2,),), 0), [WANT, ("end", A), ("break", B)], (), BadHeard),
    (run_through, (TWO, ((2,),), 0, [WANT], 1), (A,), (), BadStanding),
    (fewest_moved, (TWO, ((2,),), 0), [WANT, ("end", A), ("break", B)], (), BadHeard),
    (meets, (2, 2, ((2,),)), ("live", 0), ((A,),), BadWish),
    (meets, (2, 2, ((2,),), ("live", 0)), (A, B), (), BadSwitches),
    (Exchange, (TWO,), ((2,),), (0, 1), BadFrame),
    (ask, (), WANT, (), BadAsking),
    (ask, (), ("break", A), (), BadAsking),
    (answer, (), (A,), (), BadAnswer),
    (relay, (), (A,), (), BadStanding),
    (exchange_text, (), ASKED, (), BadExchange),
    (read_exchange, (), "box 2 1 none\nframe 1\nmoves 0 breaks 0", (), BadText),
]


def may_be_key(thing):
    try:
        hash(thing)
    except TypeError:
        return False
    return True


def spoiled(thing):
    """All values that come of a value if any value is put into one place of it, or one item is left out."""
    yield from ANY
    if isinstance(thing, (list, tuple)):
        rows = list(thing)
        for k, item in enumerate(rows):
            for other in spoiled(item):
                yield type(thing)(rows[:k] + [other] + rows[k + 1:])
            yield type(thing)(rows[:k] + rows[k + 1:])
        for other in ANY:
            yield type(thing)(rows + [other])
    if isinstance(thing, dict):
        for key in thing:
            for other in spoiled(key):
                if may_be_key(other):
                    yield {other if one is key else one: item for one, item in thing.items()}
            for other in spoiled(thing[key]):
                yield {one: other if one is key else item for one, item in thing.items()}


class AnyValues(unittest.TestCase):
    def test_judges_tell(self):
        for judge, before, right in PAPERS:
            with self.subTest(judge.__name__):
                self.assertIs(judge(*before, right), True)
                for thing in spoiled(right):
                    self.assertIn(repr(judge(*before, thing)), ("True", "False"))

    def test_wrong_arguments_are_refused(self):
        for function, before, right, rest, error in ARGUMENTS:
            with self.subTest(function.__name__):
                function(*before, right, *rest)
                refused = 0
                for thing in spoiled(right):
                    try:
                        function(*before, thing, *rest)
                    except error:
                        refused += 1
                self.assertGreater(refused, 30)


if __name__ == "__main__":
    unittest.main()
