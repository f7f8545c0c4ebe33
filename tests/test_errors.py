"""Point 3: the errors and their attributes."""

import unittest

from allcalls import errors

PLAIN = """BadAhead BadAnswer BadAsking BadAt BadBarred BadBox BadBudget BadBurst BadCall BadCaps BadDoom BadExchange
BadFit BadFrame BadGain BadGone BadKeeping BadLoad BadLot BadMany BadMost BadMoves BadMutes BadNumber BadPair BadPiece
BadPosition BadPrice BadRoom BadRow BadRule BadSeating BadSides BadSome BadStanding BadSwitch BadSwitches BadTelling
BadTracks BadTree BadTrial BadTurn BadWay BadWish NoRun NotWhole NothingDone OtherShape OtherSides""".split()

WITH = {"BadHeard": "at", "BadLine": "at", "BadText": "line", "BadTrials": "at", "NotNow": "word", "TooMany": "most"}


class Errors(unittest.TestCase):
    def test_call_error(self):
        self.assertEqual(errors.CallError.__bases__, (ValueError,))

    def test_all_stand_directly_below(self):
        for name in PLAIN + list(WITH):
            self.assertEqual(getattr(errors, name).__bases__, (errors.CallError,), name)

    def test_there_are_no_others(self):
        made = {name for name, thing in vars(errors).items() if isinstance(thing, type)}
        self.assertEqual(made, set(PLAIN) | set(WITH) | {"CallError"})
        self.assertEqual(len(PLAIN) + len(WITH), 55)

    def test_made_of_any_text(self):
        for name in PLAIN + ["CallError"]:
            for text in ("", "some text", "1 of {2}"):
                self.assertEqual(str(getattr(errors, name)(text)), text)

    def test_attributes_by_position_and_by_name(self):
        for name, word in WITH.items():
            for thing in (None, 0, 7, 20000, "asked", "free"):
                made = getattr(errors, name)
                self.assertIs(getattr(made(thing), word), thing)
                self.assertIs(getattr(made(**{word: thing}), word), thing)

    def test_attributes_of_each_object(self):
        for name, word in WITH.items():
            one, other = getattr(errors, name)(1), getattr(errors, name)(2)
            self.assertEqual((getattr(one, word), getattr(other, word)), (1, 2))

    def test_they_are_caught(self):
        for name in WITH:
            with self.assertRaises(ValueError):
                raise getattr(errors, name)(3)


if __name__ == "__main__":
    unittest.main()
