"""The head of the interface: names, arguments by position and by name."""

import importlib
import inspect
import unittest

from allcalls.boxes import Box, crossed, plain

SIGNATURES = {
    "boxes": "plain(sides, tracks); crossed(sides, tracks); full(sides, tracks); beside(one, other);"
             " without(box, gone); pieces(box); Box(sides, tracks, switches)",
    "frames": "is_load(sides, thing); is_frame(sides, thing); greatest_loads(sides, tracks); is_way(box, thing);"
              " way_load(box, way); is_standing(box, frame, thing); standings(box, frame);"
              " askings(box, frame, standing); answers(box, frame, moves, standing, asking)",
    "loads": "way_for(box, load); is_way_for(box, load, thing); piece_loads(box, piece); box_frame(box);"
             " bar(box, load); is_bar(box, load, thing)",
    "wholes": "missing(box, frame); whole_paper(box, frame); is_whole_paper(box, frame, thing)",
    "splits": "side_sums(sides, load); triangle_sums(sides, load); plain_need(sides, load);"
              " plain_split(sides, load, room); plain_bar(sides, load, room);"
              " is_plain_split(sides, load, room, thing); crossed_split(sides, load, room);"
              " is_crossed_split(sides, load, room, thing); mates_way(sides, load)",
    "keepings": "is_keeping(box, frame, moves, barred, thing); greatest_keeping(box, frame, moves, barred);"
                " strategy(box, frame, moves, barred); is_strategy(box, frame, moves, barred, thing)",
    "dooms": "is_doom(box, frame, moves, barred, thing); doom(box, frame, moves, barred);"
             " bait(box, frame, moves, standing); lost(box, frame, moves); least_moves(box, frame);"
             " moves_paper(box, frame); is_moves_paper(box, frame, thing); common_standings(box, frame, moves);"
             " common_papers(box, frame, moves); are_common_papers(box, frame, moves, thing)",
    "stricts": "first_stuck(box, frame); is_stuck(box, frame, thing); blocking_tree(box, frame, pair);"
               " is_blocking_tree(box, frame, pair, thing)",
    "rules": "rule_standings(box, frame, rule); rule_fails(box, frame, rule);"
             " is_rule_paper(box, frame, rule, thing); good_rule(box, frame); grade(box, frame)",
    "seats": "is_seating(box, frame, thing); seatings(box, frame); seated(box, frame, seating);"
             " calls(box, frame, load); call_rows(box, frame, load, many);"
             " call_answers(box, frame, moves, seating, call)",
}

A = ((0, 0), (1, 0))

# A right argument for each name, for the box plain(2, 2) and the frame ((2,),).
RIGHT = {
    "sides": 2, "tracks": 2, "switches": (A,), "one": plain(2, 2), "other": crossed(2, 2), "box": plain(2, 2),
    "gone": (A,), "thing": None, "way": (A,), "frame": ((2,),), "standing": (A,), "moves": 1,
    "asking": ("want", (0, 1)), "load": (1,), "piece": ((0, 0), (1, 0)), "room": 2, "barred": ((A,),),
    "pair": (0, 1), "rule": (A, ((0, 1), (1, 1))), "seating": ((A,),), "call": ("want", (0, 1)), "many": 2,
}


class Signatures(unittest.TestCase):
    def test_names_and_arguments(self):
        for module, text in SIGNATURES.items():
            held = importlib.import_module("allcalls." + module)
            for told in text.split(";"):
                name, words = told.strip()[:-1].split("(")
                with self.subTest(name):
                    function = getattr(held, name)
                    self.assertEqual(function.__module__, "allcalls." + module)
                    self.assertEqual(list(inspect.signature(function).parameters), words.split(", "))

    def test_by_position_and_by_name(self):
        for module, text in SIGNATURES.items():
            held = importlib.import_module("allcalls." + module)
            for told in text.split(";"):
                name, words = told.strip()[:-1].split("(")
                function = getattr(held, name)
                right = {word: RIGHT[word] for word in words.split(", ")}
                with self.subTest(name):
                    by_name = function(**{word: right[word] for word in reversed(list(right))})
                    self.assertEqual(by_name, function(*right.values()))

    def test_judges_tell_true_or_false(self):
        for module, text in SIGNATURES.items():
            held = importlib.import_module("allcalls." + module)
            for told in text.split(";"):
                name, words = told.strip()[:-1].split("(")
                if words.split(", ")[-1] == "thing":
                    right = [RIGHT[word] for word in words.split(", ")]
                    self.assertIs(getattr(held, name)(*right), False, name)

    def test_box_has_its_own_equality(self):
        self.assertIn("__eq__", vars(Box))
        self.assertIn("__init__", vars(Box))


if __name__ == "__main__":
    unittest.main()
