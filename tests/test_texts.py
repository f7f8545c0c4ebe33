"""Point 160: the text of an Exchange."""

import random
import unittest

from allcalls.boxes import Box, full, plain
from allcalls.errors import BadExchange, BadText
from allcalls.exchange import Exchange
from allcalls.texts import exchange_text, read_exchange
from tests.helpers import WRONG, any_values
from tests.test_breakgames import break_game, some_games
from tests.test_exchange import Deeds, Retold
from tests.test_keepings import RING

A = ((0, 0), (1, 0))
B = ((0, 1), (1, 1))
WANT = ("want", (0, 1))
EXAMPLE = ("box 4 2 0.0-1.0 0.0-2.0 0.0-3.0 0.1-1.1 0.1-2.1 0.1-3.1 1.0-2.0 1.0-3.0 1.1-2.1 1.1-3.1 2.0-3.0 2.1-3.1\n"
           "frame 1,0,1,1,0,1\nmoves 0 breaks 0\nwant 0-1\nstand 0.0-1.0\nwant 2-3")
LONG = ("box 2 2 0.0-1.0 0.1-1.1\nframe 2\nmoves 0 breaks 1\nwant 0-1\nstand 0.0-1.0\nrelay 0.1-1.1\nbreak 0.1-1.1\n"
        "stand 0.0-1.0\nend 0.0-1.0\nstand none\nrelay none\nwant 0-1")


def told(pin):
    return "{}.{}".format(*pin)


def told_switches(switches):
    return " ".join(told(one) + "-" + told(two) for one, two in switches) or "none"


def text_of(one):
    """The text, by the document's words."""
    lines = [f"box {one.box.sides} {one.box.tracks} {told_switches(one.box.switches)}",
             "frame " + " ".join(",".join(map(str, load)) for load in one.frame),
             f"moves {one.moves} breaks {one.number}"]
    for word, what in one.log():
        if word == "ask" and what[0] == "want":
            lines.append("want {}-{}".format(*what[1]))
        elif word == "ask":
            lines.append(what[0] + " " + told_switches([what[1]]))
        else:
            lines.append({"answer": "stand", "relay": "relay"}[word] + " " + told_switches(what))
    return "\n".join(lines)


def long_one():
    """The exchange of LONG."""
    one = Exchange(plain(2, 2), ((2,),), 0, 1)
    one.ask(WANT)
    one.answer((A,))
    one.relay((B,))
    one.ask(("break", B))
    one.answer((A,))
    one.ask(("end", A))
    one.answer(())
    one.relay(())
    one.ask(WANT)
    return one


class Texts(unittest.TestCase):
    def bad(self, text, line):
        with self.assertRaises(BadText) as raised:
            read_exchange(text)
        self.assertIs(type(raised.exception), BadText)
        self.assertEqual(raised.exception.line, line, text)

    def test_example(self):
        one = Exchange(plain(4, 2), RING, 0, 0)
        one.ask(WANT)
        one.answer((A,))
        one.ask(("want", (2, 3)))
        self.assertEqual(exchange_text(one), EXAMPLE)
        self.assertEqual(read_exchange(EXAMPLE), one)
        self.assertEqual(exchange_text(exchange=read_exchange(text=EXAMPLE)), EXAMPLE)
        self.assertEqual(exchange_text(long_one()), LONG)
        self.assertEqual(read_exchange(LONG), long_one())

    def test_small(self):
        text = "box 2 1 none\nframe 0\nmoves 20 breaks 6"
        one = Exchange(Box(2, 1, ()), ((0,),), 20, 6)
        self.assertEqual(exchange_text(one), text)
        self.assertEqual(read_exchange(text), one)
        other = read_exchange(text)
        self.assertEqual((other.box, other.frame, other.moves, other.number), (one.box, one.frame, 20, 6))
        text = "box 3 1 none\nframe 0,0,99 0,12,0 1,0,10\nmoves 0 breaks 0\nrelay none\nwant 1-2"
        self.assertEqual(exchange_text(read_exchange(text)), text)
        wide = Exchange(full(5, 6), ((99,) * 10,), 10, 0)
        self.assertEqual(read_exchange(exchange_text(wide)), wide)

    def test_some_exchanges(self):
        for rnd, box, frame, moves, number in some_games(160, 50, 150):
            one, plainly = Exchange(box, frame, moves, number), Retold(break_game(box, frame, moves, number))
            for _ in range(25):
                Deeds.step(self, rnd, box, one, plainly)
            text = exchange_text(one)
            self.assertEqual(text, text_of(one))
            other = read_exchange(text)
            self.assertEqual(other, one)
            self.assertEqual((other.position(), other.asked(), other.moved()), (one.position(), one.asked(), one.moved()))
            # It may be led on, and taken back.
            for _ in range(6):
                Deeds.step(self, rnd, box, other, plainly)
            for _ in range(len(other)):
                other.undo()
            self.assertEqual(other, Exchange(box, frame, moves, number))
            # Each lesser number of lines, from three on, is a text as well.
            lines = text.split("\n")
            for many in range(3, len(lines) + 1):
                self.assertEqual(len(read_exchange("\n".join(lines[:many]))), many - 3)
            for many in range(3):
                self.bad("\n".join(lines[:many]), many + 1 if many else 1)

    def test_spoiled_texts(self):
        """A text with a sign more, less or otherwise is another text, or none from its line on."""
        rnd, seen = random.Random(161), [0, 0]
        for text in (EXAMPLE, LONG, "box 3 2 0.0-1.1 0.1-2.0\nframe 0,1,0 1,0,0\nmoves 10 breaks 3\nend 0.0-1.1"):
            for _ in range(900):
                at = rnd.randrange(len(text) + 1)
                sign = rnd.choice("0123456789.-, \nwxn+_")
                new = rnd.choice([text[:at] + sign + text[at:], text[:at] + text[at + 1:],
                                  text[:at] + sign + text[at + 1:], text[:at] + text[at:at + 2][::-1] + text[at + 2:]])
                try:
                    self.assertEqual(exchange_text(read_exchange(new)), new)
                    seen[0] += 1
                except BadText as raised:
                    seen[1] += 1
                    self.least_bad(new, raised.line)
        self.assertGreater(min(seen), 30)

    def least_bad(self, text, line):
        """The lines ahead of the bad one begin some text, those with it begin none."""
        lines = text.split("\n")
        self.assertLessEqual(line, max(4, len(lines) + 1))
        if line > 3:
            self.assertEqual(exchange_text(read_exchange("\n".join(lines[:line - 1]))), "\n".join(lines[:line - 1]))
        rest = ["frame 1", "moves 0 breaks 0"]
        if line == 2:
            sides = int(lines[0].split()[1])
            rest[0] = "frame " + ",".join(["1"] * (sides * (sides - 1) // 2))
            read_exchange("\n".join(lines[:1] + rest))
        if line == 3:
            read_exchange("\n".join(lines[:2] + rest[1:]))

    def test_first_lines(self):
        rest = "\nframe 2\nmoves 0 breaks 1"
        read_exchange("box 2 2 0.0-1.0 0.1-1.1" + rest)
        for line in ("", "box", "box 2 2", "box 2 2 ", "box 2 2 none ", " box 2 2 none", "box  2 2 none", "box 2 2 None",
                     "box 1 2 none", "box 6 2 none", "box 2 0 none", "box 2 7 none", "box 02 2 none", "box 2 +2 none",
                     "box 2 2 none none", "box 2 2 0.0-1.0 none", "box 2 2 0.1-1.1 0.0-1.0", "box 2 2 0.0-1.0 0.0-1.0",
                     "box 2 2 1.0-0.0", "box 2 2 0.0-0.1", "box 2 2 0.0-2.0", "box 2 2 0.0-1.2", "box 2 2 0.0-1.0-1.1",
                     "box 2 2 0.0", "box 2 2 0-1", "box 2 2 0.0.0-1.0", "box 2 2 00.0-1.0", "box 2 2 0.0-1.0\t", "Box 2 2 none",
                     "box 2 2 0,0-1,0", "box 2 2 0.0-1.0  0.1-1.1", "box 2 2 -0.0-1.0", "frame 2", "box 2 2 none\r",
                     "box 2 2 0.0-1.\u0660", "box \u0662 2 none", "box 2 \u00b2 none", "box 2 2 " + "9" * 5000, "x",
                     "box 2 2 0.0_1.0", "box two 2 none", "box 2.0 2 none"):
            self.bad(line + rest, 1)
            self.bad(line, 1)

    def test_second_lines(self):
        for sides, right, wrong in (
                (2, ["0", "99", "7", "10"], ["", "1,0", "100", "01", "1 2", "2 1", "1 1", "-1", "+1", "1,", ",1", "x", " 1", "1 "]),
                (3, ["0,0,0", "1,0,0", "0,0,1 0,1,0", "0,2,0 1,1,0"],
                 ["0", "0,0", "0,0,0,0", "0,1,0 0,0,1", "0,0,1 0,0,1", "0,0,1 0,1,1", "1, 0,0", "0,0,1  0,1,0", "0;0;1",
                  "0,0,00", "0,0,1\t0,1,0", "0,,1"])):
            head = f"box {sides} 1 none"
            for line in right:
                read_exchange(head + "\nframe " + line + "\nmoves 0 breaks 0")
            for line in wrong:
                self.bad(head + "\nframe " + line + "\nmoves 0 breaks 0", 2)
            for line in ("", "frame", "Frame 0", "frames 0", "moves 0 breaks 0", "  ", "frame  0"):
                self.bad(head + "\n" + line + "\nmoves 0 breaks 0", 2)
                self.bad(head + "\n" + line, 2)
            self.bad(head, 2)

    def test_third_lines(self):
        head = "box 2 1 none\nframe 1\n"
        for line in ("moves 0 breaks 0", "moves 20 breaks 6", "moves 7 breaks 3"):
            self.assertEqual(exchange_text(read_exchange(head + line)), head + line)
        for line in ("", "moves 21 breaks 0", "moves 0 breaks 7", "moves 00 breaks 0", "moves 0 breaks", "moves 0", "moves",
                     "breaks 0 moves 0", "moves 0  breaks 0", "moves 0 breaks 0 ", " moves 0 breaks 0", "moves 0 break 0",
                     "moves -1 breaks 0", "moves 0 breaks +1", "moves x breaks 0", "moves 0 breaks 0 0", "moves,0 breaks 0",
                     "moves 0breaks 0", "move 0 breaks 0", "moves 100 breaks 0", "moves  breaks 0"):
            self.bad(head + line, 3)
            self.bad(head + line + "\nwant 0-1", 3)
        self.bad(head[:-1], 3)

    def test_deeds(self):
        lines = LONG.split("\n")
        for at, wrong in (
                (3, ["want 1-0", "want 0-2", "want 0 1", "want", "want 0-1 ", "want  0-1", "want 0-1-1", "want 00-1", "stand none",
                     "stand 0.0-1.0", "end 0.0-1.0", "relay 0.0-1.0", "break 0.0-1.1", "ask 0-1", "", "relay", "want none"]),
                (4, ["stand none", "stand 0.0-1.1", "stand 0.0-1.0 0.1-1.1", "answer 0.0-1.0", "relay 0.0-1.0", "want 0-1",
                     "stand", "stand ", "stand 0.0-1.0 ", "stand  0.0-1.0", "stand 1.0-0.0", "stand 0.0-1.0 0.0-1.0"]),
                (5, ["relay none", "relay 0.1-1.1 0.0-1.0", "stand 0.1-1.1", "relay 0.1-1.0"]),
                (6, ["break 0.1-1.0", "break 0-1", "break 0.1-1.1 0.0-1.0", "break", "break none", "end 0.0-1.0"]),
                (7, ["stand 0.1-1.1", "stand none", "relay 0.0-1.0"]),
                (8, ["break 0.0-1.0", "end 0.1-1.1", "relay 0.1-1.1"]),
                (9, ["stand", "stand none none", "stand 0.0-1.0", ""]),
                (11, ["want 0-1\nwant 0-1", "want 0-1\nrelay none", "want 0-1\nstand 0.1-1.1", "want 0-1\n", "want 0-1\n\n"])):
            for line in wrong:
                more = line.count("\n") > 0
                self.bad("\n".join(lines[:at] + [line]), at + 1 + more)
                if not more:
                    self.bad("\n".join(lines[:at] + [line] + lines[at + 1:]), at + 1)
        # A deed left out, or lines in another order.
        self.bad("\n".join(lines[:4] + lines[5:]), 5)
        self.bad("\n".join(lines[1:2] + lines[:1] + lines[2:]), 1)
        self.bad("\n".join(lines[:1] + lines[2:3] + lines[1:2] + lines[3:]), 2)
        self.bad("\n".join(lines[:2] + lines[3:]), 3)
        self.bad("\r\n".join(lines), 1)
        self.bad("\n" + LONG, 1)

    def test_refusals(self):
        others = [thing for thing in any_values() if not isinstance(thing, Exchange)]
        for thing in WRONG + others + [LONG, plain(2, 2), [long_one()], None]:
            with self.assertRaises(BadExchange):
                exchange_text(thing)
        for thing in [None, True, 7, [], (), {}, [LONG], LONG.encode(), long_one(), plain(2, 2), tuple(LONG)]:
            with self.assertRaises(BadText) as raised:
                read_exchange(thing)
            self.assertIsNone(raised.exception.line)


if __name__ == "__main__":
    unittest.main()
