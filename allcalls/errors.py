"""The errors of the package: each kind of failure has its own."""


class CallError(ValueError):
    """What all errors of the package have in common."""


class BadAhead(CallError):
    """No number of calls told ahead."""


class BadAnswer(CallError):
    """No answer to what is asked."""


class BadAsking(CallError):
    """No asking at the standing."""


class BadAt(CallError):
    """No index of what is heard."""


class BadBarred(CallError):
    """No ascending tuple of standings."""


class BadBox(CallError):
    """No Box."""


class BadBudget(CallError):
    """No budget."""


class BadBurst(CallError):
    """No burst at the standing."""


class BadCall(CallError):
    """No call at the load."""


class BadCaps(CallError):
    """No list of caps."""


class BadDoom(CallError):
    """No doom."""


class BadExchange(CallError):
    """No Exchange."""


class BadFit(CallError):
    """No fit of the one box into the other."""


class BadFrame(CallError):
    """No frame of the sides."""


class BadGain(CallError):
    """No gain."""


class BadGone(CallError):
    """No ascending tuple of switches of the box."""


class BadHeard(CallError):
    """No list of what is heard; at is the index of the first wrong item, or None."""

    def __init__(self, at):
        CallError.__init__(self, f"wrong at {at}")
        self.at = at


class BadKeeping(CallError):
    """No keeping."""


class BadLine(CallError):
    """No line of play; at is the index of the first wrong item, or None."""

    def __init__(self, at):
        CallError.__init__(self, f"wrong at {at}")
        self.at = at


class BadLoad(CallError):
    """No load of the sides, or none that is allowed here."""


class BadLot(CallError):
    """No lot of switches."""


class BadMany(CallError):
    """No number of askings or calls."""


class BadMost(CallError):
    """No greatest number."""


class BadMoves(CallError):
    """No number of moves."""


class BadMutes(CallError):
    """No tuple of switches within reach."""


class BadNumber(CallError):
    """No number within its limits."""


class BadPair(CallError):
    """No pair of the kind that is due."""


class BadPiece(CallError):
    """No piece of the box."""


class BadPosition(CallError):
    """No position."""


class BadPrice(CallError):
    """No price."""


class BadRoom(CallError):
    """No room."""


class BadRow(CallError):
    """No row of calls."""


class BadRule(CallError):
    """No rule of the box."""


class BadSeating(CallError):
    """No seating of the box and the frame."""


class BadSides(CallError):
    """No number of sides."""


class BadSome(CallError):
    """No tuple of some switches within reach."""


class BadStanding(CallError):
    """No standing of the box and the frame."""


class BadSwitch(CallError):
    """No switch of the box."""


class BadSwitches(CallError):
    """No ascending tuple of switches."""


class BadTelling(CallError):
    """No way of telling."""


class BadText(CallError):
    """No text of an Exchange; line is the number of the first wrong line, or None."""

    def __init__(self, line):
        CallError.__init__(self, f"wrong at line {line}")
        self.line = line


class BadTracks(CallError):
    """No number of tracks."""


class BadTree(CallError):
    """No tree of ways."""


class BadTrial(CallError):
    """No trial."""


class BadTrials(CallError):
    """No list of trials; at is the index of the first wrong item, or None."""

    def __init__(self, at):
        CallError.__init__(self, f"wrong at {at}")
        self.at = at


class BadTurn(CallError):
    """No turn of the sides and tracks."""


class BadWay(CallError):
    """No way of the box."""


class BadWish(CallError):
    """No wish."""


class NoRun(CallError):
    """Nothing that could have been answered fits what is heard."""


class NotNow(CallError):
    """The deed does not fit what is asked now; word tells why."""

    def __init__(self, word):
        CallError.__init__(self, f"not now: {word}")
        self.word = word


class NotWhole(CallError):
    """The box is not whole for the frame."""


class NothingDone(CallError):
    """No deed stands that could be taken back."""


class OtherShape(CallError):
    """The two boxes have other sides or tracks."""


class OtherSides(CallError):
    """The two boxes have other sides."""


class TooMany(CallError):
    """There are more than most of what is counted."""

    def __init__(self, most):
        CallError.__init__(self, f"more than {most}")
        self.most = most
