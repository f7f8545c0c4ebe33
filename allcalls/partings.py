"""Partings: switches parted into standings with caps, and bars that show that there is no such parting."""

from allcalls.bearings import BarJudge, bar_nodes
from allcalls.errors import BadCaps, BadNumber, BadSome, TooMany
from allcalls.frames import check_frame
from allcalls.kinds import is_row, is_within
from allcalls.parters import MOST_LISTED, Parter
from allcalls.trials import is_within_reach
from allcalls.ways import is_standing_of

MOST_CAPS = 400
MOST_CAP = 99


def check_parting(box, frame, some, caps):
    """Raise BadBox, BadFrame, BadSome, BadCaps unless all are as they are described."""
    check_frame(box, frame)
    if not is_within_reach(box, frame, some):
        raise BadSome("some is an ascending tuple of different switches within reach")
    if not is_row(caps) or len(caps) > MOST_CAPS:
        raise BadCaps("caps is a list of at most 400 numbers")
    for cap in caps:
        if not is_within(cap, 0, MOST_CAP):
            raise BadCaps("each cap is a number from 0 to 99")


def check_listed(parter):
    """Raise TooMany(5000) if there are more standings of the switches."""
    if parter.is_long():
        raise TooMany(MOST_LISTED)


def parting_of(parter, caps):
    """A parting of the parter's switches by the caps; None if there is none."""
    items = parter.part(caps)
    return None if items is None else [parter.switches_in(item) for item in items]


def parting(box, frame, some, caps):
    """A parting of the switches by the caps; None if there is none."""
    check_parting(box, frame, some, caps)
    return parting_of(Parter(box, frame, some), caps)


def is_parting_of(box, frame, some, caps, thing):
    """Whether any value is a parting, the other arguments having been checked."""
    if not is_row(thing) or len(thing) != len(caps):
        return False
    found = []
    for standing, cap in zip(thing, caps):
        if not is_standing_of(box, frame, standing) or len(standing) > cap:
            return False
        found.extend(standing)
    return tuple(sorted(found)) == some


def is_parting(box, frame, some, caps, thing):
    """Whether any value is a parting of the switches by the caps."""
    check_parting(box, frame, some, caps)
    return is_parting_of(box, frame, some, caps, thing)


def bar_of(box, frame, some, caps):
    """A bar of the switches by the caps; None if there is a parting."""
    check_parting(box, frame, some, caps)
    parter = Parter(box, frame, some)
    check_listed(parter)
    return None if parter.part(caps) is not None else bar_nodes(parter, list(caps))


def is_bar_of(box, frame, some, caps, thing):
    """Whether any value is a bar of the switches by the caps."""
    check_parting(box, frame, some, caps)
    parter = Parter(box, frame, some)
    check_listed(parter)
    return BarJudge(box, frame, parter, list(caps)).is_bar(thing)


def check_many_caps(number):
    """Raise BadNumber unless number is a number from 0 to 400."""
    if not is_within(number, 0, MOST_CAPS):
        raise BadNumber("number is a number from 0 to 400")


def halving(number):
    """The list of so many caps, each twice as great as the next one, the last one 1; none above 99."""
    check_many_caps(number)
    caps = []
    cap = 1
    for _ in range(number):
        caps.append(cap)
        cap = min(2 * cap, MOST_CAP)
    return caps[::-1]


def open_caps(number):
    """The list of so many caps 99."""
    check_many_caps(number)
    return [MOST_CAP] * number
