"""The head of the interface: names, arguments by position and by name."""

import importlib
import inspect
import unittest

from allcalls.aheads import ahead_keeping
from allcalls.boxes import Box, crossed, plain
from allcalls.breaks import way_tree
from allcalls.dooms import doom
from allcalls.exchange import Exchange
from allcalls.keepings import greatest_keeping

SIGNATURES = {
    "boxes": "plain(sides, tracks); crossed(sides, tracks); full(sides, tracks); beside(one, other);"
             " without(box, gone); pieces(box); Box(sides, tracks, switches)",
    "frames": "is_load(sides, thing); is_frame(sides, thing); greatest_loads(sides, tracks); is_way(box, thing);"
              " way_load(box, way); is_standing(box, frame, thing); standings(box, frame);"
              " askings(box, frame, standing); answers(box, frame, moves, standing, asking)",
    "loads": "way_for(box, load); is_way_for(box, load, thing); piece_loads(box, piece); box_frame(box);"
             " bar(box, load); is_bar(box, load, thing)",
    "wholes": "missing(box, frame); whole_paper(box, frame); is_whole_paper(box, frame, thing)",
    "splits": "side_sums(sides, load); triangle_sums(sides, load); plain_need(sides, load);"
              " plain_split(sides, load, room); plain_bar(sides, load, room);"
              " is_plain_split(sides, load, room, thing); crossed_split(sides, load, room);"
              " is_crossed_split(sides, load, room, thing); mates_way(sides, load)",
    "keepings": "is_keeping(box, frame, moves, barred, thing); greatest_keeping(box, frame, moves, barred);"
                " strategy(box, frame, moves, barred); is_strategy(box, frame, moves, barred, thing)",
    "dooms": "is_doom(box, frame, moves, barred, thing); doom(box, frame, moves, barred);"
             " bait(box, frame, moves, standing); lost(box, frame, moves); least_moves(box, frame);"
             " moves_paper(box, frame); is_moves_paper(box, frame, thing); common_standings(box, frame, moves);"
             " common_papers(box, frame, moves); are_common_papers(box, frame, moves, thing)",
    "stricts": "first_stuck(box, frame); is_stuck(box, frame, thing); blocking_tree(box, frame, pair);"
               " is_blocking_tree(box, frame, pair, thing)",
    "rules": "rule_standings(box, frame, rule); rule_fails(box, frame, rule);"
             " is_rule_paper(box, frame, rule, thing); good_rule(box, frame); grade(box, frame)",
    "seats": "is_seating(box, frame, thing); seatings(box, frame); seated(box, frame, seating);"
             " calls(box, frame, load); call_rows(box, frame, load, many);"
             " call_answers(box, frame, moves, seating, call)",
    "aheads": "is_ahead_keeping(box, frame, moves, ahead, thing); ahead_keeping(box, frame, moves, ahead);"
              " is_ahead_doom(box, frame, moves, ahead, thing); ahead_doom(box, frame, moves, ahead);"
              " longer(box, frame, moves, ahead, keeping); least_ahead(box, frame, moves, most)",
    "foreseen": "behind(box, frame, moves, row); is_dead(box, frame, moves, thing); dead_row(box, frame, moves);"
                " is_family(box, frame, moves, thing); family(box, frame, moves)",
    "blocks": "effect(box, frame, moves, load, row); endless_effects(box, frame, moves);"
              " is_block_keeping(box, frame, moves, thing); block_keeping(box, frame, moves);"
              " is_block_doom(box, frame, moves, thing); block_doom(box, frame, moves);"
              " enough_ahead(box, frame, moves)",
    "bursts": "bursts(box, frame, many, standing); burst_answers(box, frame, moves, many, standing, burst);"
              " is_burst_keeping(box, frame, moves, many, thing); burst_keeping(box, frame, moves, many);"
              " is_burst_doom(box, frame, moves, many, thing); burst_doom(box, frame, moves, many);"
              " burst_moves(box, frame, many); greatest_burst(box, frame, moves); patience(box, frame, moves)",
    "breaks": "breaks(box, load, lot); fewest_breaking(box, load); breaking_lots(box, load);"
              " way_tree(box, load, number); is_way_tree(box, load, number, thing); way_left(box, load, lot, tree);"
              " frame_break(box, frame); holds_through(box, frame, number); frame_trees(box, frame, number);"
              " are_frame_trees(box, frame, number, thing); left_frame(box, frame, lot);"
              " matters(box, frame, switch); spare(box, frame); strengthened(box, frame, number, most)",
    "breakgames": "positions(box, frame, number); to_answer(box, frame, number, position);"
                  " break_answers(box, frame, moves, number, position, asked);"
                  " break_keeping(box, frame, moves, number); is_break_keeping(box, frame, moves, number, thing);"
                  " break_doom(box, frame, moves, number); is_break_doom(box, frame, moves, number, thing);"
                  " least_break_moves(box, frame, number); break_play(box, frame, moves, number, line)",
    "trials": "within_reach(box, frame); all_mutes(box, frame, most); told(box, frame, telling, mutes, trial);"
              " left(box, frame, telling, most, heard); twins(box, frame, telling, most, trials)",
    "partings": "parting(box, frame, some, caps); bar_of(box, frame, some, caps);"
                " is_parting(box, frame, some, caps, thing); is_bar_of(box, frame, some, caps, thing);"
                " halving(number); open_caps(number)",
    "hunts": "suspects(box, frame, heard); trials_left(box, frame, heard); wise(box, frame, heard);"
             " foe(box, frame, heard, trial); fewest_trials(box, frame, telling); trials_paper(box, frame, telling);"
             " is_trials_paper(box, frame, telling, thing)",
    "tries": "tries(box, load, most); are_tries(box, load, most, thing); shield(box, load, most, number);"
             " is_shield(box, load, most, number, thing)",
    "alikes": "is_turn(sides, tracks, thing); no_turn(sides, tracks); turn_back(sides, tracks, turn);"
              " turn_on(sides, tracks, turn, then); turned_box(box, turn); turned_way(box, turn, way);"
              " turned_load(box, turn, load); turned_frame(box, turn, frame); turned_asking(box, turn, asking)",
    "likes": "turns(one, other); alike(one, other); likes(box); first_like(box)",
    "fits": "is_fit(one, other, thing); first_fit(one, other); fitted_frame(one, other, fit, frame);"
            " fitted_keeping(one, other, fit, frame, moves, keeping); doom_back(one, other, fit, frame, moves, doom)",
    "worths": "worth(box, frame); cheap(box, frame, standing, asking); is_low(box, frame, pair, thing);"
              " is_high(box, frame, pair, thing); low_paper(box, frame, pair); high_paper(box, frame, pair)",
    "budgets": "least_budget(box, frame, gain, price); budgets(box, frame, gain, price);"
               " is_budgets(box, frame, gain, price, thing); ruin(box, frame, gain, price, budget);"
               " is_ruin(box, frame, gain, price, budget, thing)",
    "refuges": "safe_positions(box, frame, moves, number); perils(box, frame, moves, number);"
               " is_refuge(box, frame, moves, number, thing); are_perils(box, frame, moves, number, thing)",
    "exchange": "Exchange(box, frame, moves, number)",
    "hearsay": "is_run(box, frame, moves, heard, thing); may_stand(box, frame, moves, heard);"
               " surely(box, frame, moves, heard, at); run_through(box, frame, moves, heard, at, standing);"
               " fence(box, frame, moves, heard, at, standing); is_fence(box, frame, moves, heard, at, standing, thing)",
    "prices": "fewest_moved(box, frame, moves, heard); most_moved(box, frame, moves, heard);"
              " calm_run(box, frame, moves, heard); prices(box, frame, moves, heard, number);"
              " are_prices(box, frame, moves, heard, number, thing)",
    "texts": "exchange_text(exchange); read_exchange(text)",
    "fewest": "meets(sides, tracks, frame, wish, switches); fewest_switches(sides, tracks, frame, wish);"
              " least_lots(sides, tracks, frame, wish); great_lots(sides, tracks, frame, wish);"
              " short_tree(sides, tracks, frame, wish, number); is_short_tree(sides, tracks, frame, wish, number, thing)",
    "trades": "trade(sides, tracks, frame); trade_papers(sides, tracks, frame);"
              " are_trade_papers(sides, tracks, frame, thing)",
}

A = ((0, 0), (1, 0))

# A right argument for each name, for the box plain(2, 2) and the frame ((2,),).
RIGHT = {
    "sides": 2, "tracks": 2, "switches": (A,), "one": plain(2, 2), "other": crossed(2, 2), "box": plain(2, 2),
    "gone": (A,), "thing": None, "way": (A,), "frame": ((2,),), "standing": (A,), "moves": 1,
    "asking": ("want", (0, 1)), "load": (1,), "piece": ((0, 0), (1, 0)), "room": 2, "barred": ((A,),),
    "pair": (0, 1), "rule": (A, ((0, 1), (1, 1))), "seating": ((A,),), "call": ("want", (0, 1)), "many": 2,
    "ahead": 1, "most": 1, "row": (("want", (0, 1)),), "burst": ((A,), (0,)), "lot": (A,), "number": 1, "switch": A,
    "asked": ("want", (0, 1)), "line": [], "telling": "each", "mutes": (A,), "trial": (A,), "heard": [], "trials": [],
    "some": (A,), "caps": [1], "turn": ((1, 0), ((1, 0), (0, 1))), "then": ((0, 1), ((1, 0), (0, 1))),
    "fit": ((1, 0), ((1, 0), (0, 1))), "keeping": ((),), "gain": 1, "price": 2, "budget": 3,
    "at": 0, "exchange": Exchange(plain(2, 2), ((2,),), 0, 1), "text": "box 2 1 none\nframe 1\nmoves 0 breaks 0",
    "wish": ("live", 1),
}

# Right arguments for functions whose arguments of these names are others than above.
OWN = {
    "longer": {"keeping": ahead_keeping(plain(2, 2), ((2,),), 1, 1)}, "way_left": {"tree": way_tree(plain(2, 2), (1,), 1)},
    "effect": {"row": (("end", (0, 1), 0),)}, "to_answer": {"position": ((A,), ())},
    "break_answers": {"position": ((A,), ())},
    "fitted_keeping": {"keeping": greatest_keeping(plain(2, 2), ((2,),), 1, ())},
    "run_through": {"standing": ()}, "fence": {"standing": ()}, "is_fence": {"standing": ()},
    "doom_back": {"frame": ((3,),), "doom": doom(crossed(2, 2), ((3,),), 1, ())},
}


def right_for(name, words):
    """The dict from the names of the arguments of a function to right ones."""
    told = {**RIGHT, **OWN.get(name, {})}
    return {word: told[word] for word in words.split(", ")}


class Signatures(unittest.TestCase):
    def test_names_and_arguments(self):
        for module, text in SIGNATURES.items():
            held = importlib.import_module("allcalls." + module)
            for told in text.split(";"):
                name, words = told.strip()[:-1].split("(")
                with self.subTest(name):
                    function = getattr(held, name)
                    self.assertEqual(function.__module__, "allcalls." + module)
                    self.assertEqual(list(inspect.signature(function).parameters), words.split(", "))

    def test_by_position_and_by_name(self):
        for module, text in SIGNATURES.items():
            held = importlib.import_module("allcalls." + module)
            for told in text.split(";"):
                name, words = told.strip()[:-1].split("(")
                function = getattr(held, name)
                right = right_for(name, words)
                with self.subTest(name):
                    by_name = function(**{word: right[word] for word in reversed(list(right))})
                    self.assertEqual(by_name, function(*right.values()))

    def test_judges_tell_true_or_false(self):
        for module, text in SIGNATURES.items():
            held = importlib.import_module("allcalls." + module)
            for told in text.split(";"):
                name, words = told.strip()[:-1].split("(")
                if words.split(", ")[-1] == "thing":
                    self.assertIs(getattr(held, name)(*right_for(name, words).values()), False, name)

    def test_methods(self):
        methods = ("ask(self, asked); answer(self, standing); relay(self, standing); undo(self); position(self); asked(self);"
                   " log(self); moved(self); heard(self); copy(self); is_safe(self); advice(self); peril(self); repair(self);"
                   " __len__(self); __eq__(self, other)")
        for told in methods.split(";"):
            name, words = told.strip()[:-1].split("(")
            self.assertIn(name, vars(Exchange))
            self.assertEqual(list(inspect.signature(vars(Exchange)[name]).parameters), words.split(", "))

    def test_objects_of_the_package(self):
        one = Exchange(frame=((2,),), box=plain(2, 2), number=1, moves=0)
        self.assertEqual((one.box, one.frame, one.moves, one.number), (plain(2, 2), ((2,),), 0, 1))
        box = Box(tracks=2, switches=(A,), sides=3)
        self.assertEqual((box.sides, box.tracks, box.switches), (3, 2, (A,)))

    def test_box_has_its_own_equality(self):
        self.assertIn("__eq__", vars(Box))
        self.assertIn("__init__", vars(Box))


if __name__ == "__main__":
    unittest.main()
