"""Breaking live: switches break while wires are asked for and given up, and whatever is broken stays so."""

from allcalls.boxes import has_switch, is_lot, without
from allcalls.breaktables import BreakFalls, BreakTable, all_positions, asked_at
from allcalls.counts import one_more
from allcalls.errors import BadAsking, BadLine, BadNumber, BadPosition
from allcalls.finders import Finder
from allcalls.frames import check_frame
from allcalls.games import is_few
from allcalls.keepings import check_game
from allcalls.kinds import is_number, is_plain, is_row, is_tuple_of, is_within, rises
from allcalls.ways import Wanted, is_asking_at, is_standing_of, less, load_of, refilled

MOST_BREAKS = 6


def check_breaks(number):
    """Raise BadNumber unless number is a number from 0 to 6."""
    if not is_within(number, 0, MOST_BREAKS):
        raise BadNumber("number is a number from 0 to 6")


def check_break_game(box, frame, moves, number):
    """Raise BadBox, BadFrame, BadMoves, BadNumber unless all are as they are described."""
    check_game(box, frame, moves)
    check_breaks(number)


class Judge:
    """What is needed to judge positions: what was found right before is known again."""

    def __init__(self, box, frame, number):
        self.box = box
        self.frame = frame
        self.number = number
        self.finder = Finder(box)
        self.ways = {}
        self.lots = {}

    def is_position(self, thing):
        """Whether any value is a position."""
        if not is_tuple_of(thing, 2) or not is_plain(thing):
            return False
        gone, way = thing
        if gone not in self.lots:
            if not is_lot(self.box, gone) or len(gone) > self.number:
                return False
            self.lots[gone] = self.finder.lot_of(gone)
        if way not in self.ways:
            if not is_standing_of(self.box, self.frame, way):
                return False
            self.ways[way] = self.finder.lot_of(way)
        return not self.lots[gone] & self.ways[way]

    def is_asked(self, position, thing):
        """Whether any value is to be answered at the position."""
        gone, way = position
        if is_tuple_of(thing, 2) and isinstance(thing[0], str) and thing[0] == "break":
            return len(gone) < self.number and has_switch(self.box, thing[1]) and thing[1] not in gone
        return is_asking_at(self.box, self.frame, way, thing)

    def aim(self, position, asked):
        """What the answers have: the lot gone, the load, and the wires that may be moved, as a lot."""
        gone, way = position
        word, what = asked
        load = load_of(self.box.sides, way)
        if word == "want":
            return (gone, one_more(self.box.sides, load, what), self.ways[way])
        if word == "break":
            bit = self.finder.bits[what]
            return (tuple(sorted(gone + (what,))), load, self.ways[way] & ~bit)
        return (gone, load_of(self.box.sides, less(way, what)), self.ways[way] & ~self.finder.bits[what])

    def is_answer(self, moves, position, asked, thing):
        """Whether any value is a position that answers what is asked, with so many moves."""
        if not self.is_position(thing):
            return False
        if asked[0] == "end":
            return thing == (position[0], less(position[1], asked[1]))
        gone, load, own = self.aim(position, asked)
        if thing[0] != gone or load_of(self.box.sides, thing[1]) != load:
            return False
        return is_few(own & ~self.ways[thing[1]], moves)

    def answers_of(self, moves, position, asked, most):
        """The positions that answer what is asked, in no order: at most so many of them, if most is not None."""
        gone, way = position
        word, what = asked
        if word == "end":
            return [(gone, less(way, what))]
        if word == "want":
            found = refilled(without(self.box, gone), moves, way, [what], most)
            return [(gone, other) for other in found]
        gone = tuple(sorted(gone + (what,)))
        # A wire on the broken switch is laid anew, between the same sides.
        pairs = [(what[0][0], what[1][0])] if what in way else []
        return [(gone, other) for other in refilled(without(self.box, gone), moves, less(way, what), pairs, most)]


def positions(box, frame, number):
    """The ascending list of all positions."""
    check_frame(box, frame)
    check_breaks(number)
    return all_positions(box, frame, number)


def judge_of(box, frame, number, position):
    """A judge that knows the position; BadPosition if it is none."""
    judge = Judge(box, frame, number)
    if not judge.is_position(position):
        raise BadPosition("position is a lot that is gone and a standing without its switches")
    return judge


def to_answer(box, frame, number, position):
    """The ascending list of what there is to be answered at the position."""
    check_frame(box, frame)
    check_breaks(number)
    judge_of(box, frame, number, position)
    return asked_at(box, number, Wanted(box, frame), position)


def break_answers(box, frame, moves, number, position, asked):
    """The ascending list of all answers at the position to what is asked, with so many moves."""
    check_break_game(box, frame, moves, number)
    judge = judge_of(box, frame, number, position)
    if not judge.is_asked(position, asked):
        raise BadAsking("asked is to be answered at the position")
    return sorted(judge.answers_of(moves, position, asked, None))


def break_keeping(box, frame, moves, number):
    """The keeping with the most positions; None if there is none."""
    check_break_game(box, frame, moves, number)
    table = BreakTable(box, frame, number)
    nodes = BreakFalls(table, moves).nodes
    # The position ((), ()) has the number 0.
    if 0 in nodes:
        return None
    return tuple([position for k, position in enumerate(table.positions) if k not in nodes])


def break_doom(box, frame, moves, number):
    """The dict from all lost positions to their ranks and what is asked there; None if there is a keeping."""
    check_break_game(box, frame, moves, number)
    table = BreakTable(box, frame, number)
    nodes = BreakFalls(table, moves).nodes
    if 0 not in nodes:
        return None
    return {table.positions[k]: nodes[k] for k in sorted(nodes)}


def are_answered(judge, moves, known, groups, position, every):
    """Whether each of what is to be answered at the position has an answer that is known."""
    for asked in every:
        gone, load, own = judge.aim(position, asked)
        if asked[0] == "end":
            if (gone, less(position[1], asked[1])) not in known:
                return False
        elif not [other for other in groups.get((gone, load), []) if is_few(own & ~other, moves)]:
            return False
    return True


def is_answered_tuple(box, frame, moves, number, thing):
    """Whether any value is an ascending tuple of different positions at which all has an answer among them."""
    judge = Judge(box, frame, number)
    if not isinstance(thing, tuple):
        return False
    for position in thing:
        if not judge.is_position(position):
            return False
    if not rises(thing):
        return False
    known = {position: True for position in thing}
    groups = {}
    for gone, way in thing:
        groups.setdefault((gone, load_of(box.sides, way)), []).append(judge.ways[way])
    wanted = Wanted(box, frame)
    for position in thing:
        every = asked_at(box, number, wanted, position)
        if not are_answered(judge, moves, known, groups, position, every):
            return False
    return True


def is_break_keeping(box, frame, moves, number, thing):
    """Whether any value is a keeping."""
    check_break_game(box, frame, moves, number)
    # The position ((), ()) is the first of all.
    if not isinstance(thing, tuple) or len(thing) == 0 or thing[0] != ((), ()):
        return False
    return is_answered_tuple(box, frame, moves, number, thing)


def are_falls(box, frame, moves, number, thing):
    """Whether any value is a dict from positions to ranks and askings whose answers have lesser ranks."""
    judge = Judge(box, frame, number)
    if not isinstance(thing, dict):
        return False
    for position, node in thing.items():
        if not judge.is_position(position) or not is_tuple_of(node, 2):
            return False
        if not is_number(node[0]) or node[0] < 0 or not judge.is_asked(position, node[1]):
            return False
    # If there are more answers than that, one of them is no key.
    enough = len(thing) + 1
    for position, node in thing.items():
        for other in judge.answers_of(moves, position, node[1], enough):
            if other not in thing or thing[other][0] >= node[0]:
                return False
    return True


def is_break_doom(box, frame, moves, number, thing):
    """Whether any value is a doom."""
    check_break_game(box, frame, moves, number)
    return isinstance(thing, dict) and ((), ()) in thing and are_falls(box, frame, moves, number, thing)


def least_break_moves(box, frame, number):
    """The least number of moves with which there is a keeping; None if there is none with any."""
    check_frame(box, frame)
    check_breaks(number)
    table = BreakTable(box, frame, number)
    if not table.is_ever_carried(frame):
        return None
    enough = max([sum(load) for load in frame])
    for moves in range(enough):
        if 0 not in BreakFalls(table, moves).nodes:
            return moves
    return enough


def break_play(box, frame, moves, number, line):
    """The position behind the line of what was asked and answered."""
    check_break_game(box, frame, moves, number)
    if not is_row(line):
        raise BadLine(None)
    judge = Judge(box, frame, number)
    position = ((), ())
    judge.is_position(position)
    for at, item in enumerate(line):
        if not is_tuple_of(item, 2) or not judge.is_asked(position, item[0]):
            raise BadLine(at)
        if not judge.is_answer(moves, position, item[0], item[1]):
            raise BadLine(at)
        position = item[1]
    return position
