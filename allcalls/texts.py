"""The text of an Exchange: how it is written, and how it is read."""

from allcalls.boxes import MOST_SIDES, MOST_TRACKS, Box, is_switch, is_switch_tuple
from allcalls.breakgames import MOST_BREAKS
from allcalls.counts import is_frame_of, is_pair_of_sides
from allcalls.errors import BadExchange, BadText
from allcalls.exchange import Exchange
from allcalls.frames import MOST_MOVES
from allcalls.kinds import is_within

# No number that is written has more figures.
MOST_FIGURES = 2


def pin_text(pin):
    """How a pin is written."""
    return f"{pin[0]}.{pin[1]}"


def switch_text(switch):
    """How a switch is written."""
    return f"{pin_text(switch[0])}-{pin_text(switch[1])}"


def pair_text(pair):
    """How a pair of sides is written."""
    return f"{pair[0]}-{pair[1]}"


def load_text(load):
    """How a load is written."""
    return ",".join([str(number) for number in load])


def switches_text(switches):
    """How switches are written."""
    return " ".join([switch_text(switch) for switch in switches]) if switches else "none"


def deed_text(deed):
    """The line of a deed."""
    word, what = deed
    if word != "ask":
        first = "stand" if word == "answer" else word
        return f"{first} {switches_text(what)}"
    first, thing = what
    told = pair_text(thing) if first == "want" else switch_text(thing)
    return f"{first} {told}"


def head_lines(exchange):
    """The three lines ahead of the deeds."""
    box = exchange.box
    loads = " ".join([load_text(load) for load in exchange.frame])
    return [
        f"box {box.sides} {box.tracks} {switches_text(box.switches)}",
        f"frame {loads}",
        f"moves {exchange.moves} breaks {exchange.number}",
    ]


def exchange_text(exchange):
    """The text of an Exchange."""
    if not isinstance(exchange, Exchange):
        raise BadExchange("exchange is an Exchange")
    return "\n".join(head_lines(exchange) + [deed_text(deed) for deed in exchange.log()])


def read_number(word):
    """The number that is written so; None if none is."""
    if len(word) == 0 or len(word) > MOST_FIGURES:
        return None
    for figure in word:
        if figure not in "0123456789":
            return None
    return int(word) if word == "0" or word[0] != "0" else None


def read_pair(word, sign):
    """The pair of numbers that is written so, with a sign between; None if none is."""
    found = [read_number(part) for part in word.split(sign)]
    return None if len(found) != 2 or None in found else (found[0], found[1])


def read_switch(word):
    """The switch that is written so, of any sides and tracks; None if none is."""
    pins = [read_pair(part, ".") for part in word.split("-")]
    if len(pins) != 2 or None in pins:
        return None
    return (pins[0], pins[1]) if is_switch(MOST_SIDES, MOST_TRACKS, (pins[0], pins[1])) else None


def read_switches(words):
    """The tuple of the switches that are written so; None if any is none."""
    if words == ["none"]:
        return ()
    found = [read_switch(word) for word in words]
    return None if not found or None in found else tuple(found)


def read_box(line):
    """The Box of the first line; None if there is none."""
    words = line.split(" ")
    if len(words) < 4 or words[0] != "box":
        return None
    sides, tracks, switches = read_number(words[1]), read_number(words[2]), read_switches(words[3:])
    if not is_within(sides, 2, MOST_SIDES) or not is_within(tracks, 1, MOST_TRACKS):
        return None
    return Box(sides, tracks, switches) if is_switch_tuple(sides, tracks, switches) else None


def read_frame(sides, line):
    """The frame of the second line; None if there is none."""
    words = line.split(" ")
    frame = tuple([tuple([read_number(word) for word in load.split(",")]) for load in words[1:]])
    return frame if words[0] == "frame" and is_frame_of(sides, frame) else None


def read_limits(line):
    """The pair of moves and breaks of the third line; None if there is none."""
    words = line.split(" ")
    if len(words) != 4 or words[0] != "moves" or words[2] != "breaks":
        return None
    moves, number = read_number(words[1]), read_number(words[3])
    return (moves, number) if is_within(moves, 0, MOST_MOVES) and is_within(number, 0, MOST_BREAKS) else None


def read_asked(words):
    """What is asked by a line of these words; None if nothing is."""
    if len(words) != 2:
        return None
    if words[0] == "want":
        pair = read_pair(words[1], "-")
        return ("want", pair) if is_pair_of_sides(MOST_SIDES, pair) else None
    switch = read_switch(words[1])
    return (words[0], switch) if switch is not None else None


def is_led_by(exchange, line):
    """Whether the line is a deed that can be done next; if so, it is done."""
    words = line.split(" ")
    if words[0] in ("want", "end", "break"):
        asked = read_asked(words)
        if asked is None or exchange.asked() is not None or not exchange.can_ask(asked):
            return False
        exchange.ask(asked)
        return True
    standing = read_switches(words[1:])
    if standing is None:
        return False
    if words[0] == "stand" and exchange.asked() is not None and exchange.answered(standing) is not None:
        exchange.answer(standing)
        return True
    if words[0] == "relay" and exchange.asked() is None and exchange.can_relay(standing):
        exchange.relay(standing)
        return True
    return False


def read_head(lines):
    """The Exchange of the first three lines, in which nothing is done yet."""
    box = read_box(lines[0])
    if box is None:
        raise BadText(1)
    frame = read_frame(box.sides, lines[1]) if len(lines) > 1 else None
    if frame is None:
        raise BadText(2)
    limits = read_limits(lines[2]) if len(lines) > 2 else None
    if limits is None:
        raise BadText(3)
    return Exchange(box, frame, limits[0], limits[1])


def read_exchange(text):
    """The Exchange with the text."""
    if not isinstance(text, str):
        raise BadText(None)
    lines = text.split("\n")
    exchange = read_head(lines)
    for at in range(3, len(lines)):
        if not is_led_by(exchange, lines[at]):
            raise BadText(at + 1)
    return exchange
