"""A live exchange: what is asked, answered and laid anew, deed by deed, all of which can be taken back."""

from allcalls.breakgames import Judge, check_break_game
from allcalls.errors import BadAnswer, BadAsking, BadStanding, NothingDone, NotNow
from allcalls.outlooks import Outlook
from allcalls.ways import load_of


def moved_from(standing, other, asked):
    """How many switches of a standing are missing in the next one, not counting the one that ended or broke."""
    return len([switch for switch in standing if switch not in other and switch != asked[1]])


class Exchange:
    """An exchange of a box and a frame, with so many moves for each answer and so many breaks in all."""

    def __init__(self, box, frame, moves, number):
        check_break_game(box, frame, moves, number)
        self.box = box
        self.frame = frame
        self.moves = moves
        self.number = number
        self.judge = Judge(box, frame, number)
        self.judge.is_position(((), ()))
        self.deeds = []
        # For the beginning and each deed: the position, what is asked, and how much was moved in answers and relays.
        self.states = [(((), ()), None, (0, 0))]
        self.outlook = None

    def __eq__(self, other):
        return (
            isinstance(other, Exchange)
            and self.box == other.box
            and self.frame == other.frame
            and self.moves == other.moves
            and self.number == other.number
            and self.deeds == other.deeds
        )

    def __len__(self):
        return len(self.deeds)

    def can_ask(self, asked):
        """Whether any value is to be answered at the position."""
        return self.judge.is_asked(self.position(), asked)

    def answered(self, standing):
        """The position that any value makes as an answer to what is asked; None if it is none."""
        asked = self.asked()
        gone = self.position()[0]
        if asked[0] == "break":
            gone = tuple(sorted(gone + (asked[1],)))
        found = (gone, standing)
        return found if self.judge.is_answer(self.moves, self.position(), asked, found) else None

    def can_relay(self, standing):
        """Whether any value is a standing of what is left of the box with the load of the present one."""
        gone, way = self.position()
        if not self.judge.is_position((gone, standing)):
            return False
        return load_of(self.box.sides, standing) == load_of(self.box.sides, way)

    def add_deed(self, deed, state):
        """Note a deed and what has come of it."""
        self.deeds.append(deed)
        self.states.append(state)

    def ask(self, asked):
        """Ask for what is to be answered at the position."""
        if self.asked() is not None:
            raise NotNow("asked")
        if not self.can_ask(asked):
            raise BadAsking("asked is to be answered at the position")
        self.add_deed(("ask", asked), (self.position(), asked, self.moved()))

    def answer(self, standing):
        """Answer what is asked by a standing."""
        asked = self.asked()
        if asked is None:
            raise NotNow("free")
        found = self.answered(standing)
        if found is None:
            raise BadAnswer("standing is that of an answer to what is asked")
        by_answers, by_relays = self.moved()
        cost = moved_from(self.position()[1], standing, asked)
        self.add_deed(("answer", standing), (found, None, (by_answers + cost, by_relays)))

    def relay(self, standing):
        """Lay the wires anew, without being asked."""
        if self.asked() is not None:
            raise NotNow("asked")
        if not self.can_relay(standing):
            raise BadStanding("standing is one of what is left of the box, with the load of the present one")
        gone, way = self.position()
        by_answers, by_relays = self.moved()
        cost = len([switch for switch in way if switch not in standing])
        self.add_deed(("relay", standing), ((gone, standing), None, (by_answers, by_relays + cost)))

    def undo(self):
        """Take back the last deed that stands."""
        if not self.deeds:
            raise NothingDone("some deed stands")
        self.deeds.pop()
        self.states.pop()

    def position(self):
        """The position."""
        return self.states[-1][0]

    def asked(self):
        """What is asked; None if nothing is."""
        return self.states[-1][1]

    def log(self):
        """The list of the deeds that stand."""
        return list(self.deeds)

    def moved(self):
        """How many wires were moved in all answers, and in all relays."""
        return self.states[-1][2]

    def heard(self):
        """The list of what was asked and answered."""
        found = [what for word, what in self.deeds if word == "ask"]
        return found if self.asked() is None else found[:-1]

    def copy(self):
        """An independent exchange with the same deeds."""
        other = Exchange(self.box, self.frame, self.moves, self.number)
        other.judge = self.judge
        other.deeds = list(self.deeds)
        other.states = list(self.states)
        other.outlook = self.outlook
        return other

    def ahead_of_all(self):
        """The outlook, which is looked for once: it hangs on nothing that is done."""
        if self.outlook is None:
            self.outlook = Outlook(self.box, self.frame, self.moves, self.number)
        return self.outlook

    def is_safe(self):
        """Whether the position, or some answer to what is asked, is safe."""
        return self.peril() is None

    def advice(self):
        """The ascending list of the standings of the answers that are safe."""
        if self.asked() is None:
            raise NotNow("free")
        return self.ahead_of_all().safe_answers(self.position(), self.asked())

    def peril(self):
        """The rank of what lies ahead and what is asked there; None if it is safe."""
        outlook = self.ahead_of_all()
        if self.asked() is None:
            return outlook.node_at(self.position())
        return outlook.peril_of(self.position(), self.asked())

    def repair(self):
        """The safe standing to lay anew that moves the fewest wires, of these the least; None if there is none."""
        if self.asked() is not None:
            raise NotNow("asked")
        return self.ahead_of_all().nearest_safe(self.position())
