"""Finding out the one mute switch in the fewest trials, whatever is told."""

from allcalls.bearings import BarJudge, bar_nodes
from allcalls.errors import BadHeard, BadTrial
from allcalls.frames import check_frame
from allcalls.kinds import is_row, is_tuple_of, is_within
from allcalls.parters import Parter
from allcalls.partings import MOST_CAPS, check_listed, halving, is_parting_of, open_caps, parting_of
from allcalls.trials import WHOLE, check_telling, is_heard, is_trial, reached


def behind_trial(found, trial, rings):
    """What is suspected behind a trial that rings, or does not; None if that cannot be.

    found is a pair of the list of the suspects, and whether one of them surely is mute.
    """
    suspected, sure = found
    if rings:
        left = [switch for switch in suspected if switch not in trial]
        return None if sure and not left else (left, sure)
    left = [switch for switch in suspected if switch in trial]
    return (left, True) if left else None


def suspected_of(box, frame, heard):
    """The pair of the list of the suspects, and whether one of them surely is mute, behind what is heard."""
    if not is_row(heard):
        raise BadHeard(None)
    found = (reached(box, frame), False)
    for at, item in enumerate(heard):
        if not is_heard(box, frame, WHOLE, item):
            raise BadHeard(at)
        found = behind_trial(found, item[0], item[1])
        if found is None:
            raise BadHeard(at)
    return found


def suspects(box, frame, heard):
    """The pair of the tuple of the switches that may be mute, and whether one of them surely is."""
    check_frame(box, frame)
    suspected, sure = suspected_of(box, frame, heard)
    return (tuple(suspected), sure)


def doublings(many):
    """The least number n with 2 ** n not below many."""
    number = 0
    while 1 << number < many:
        number += 1
    return number


def fewest_parts(parter, caps_of, least):
    """The least number, from least on, by whose caps there is a parting of all switches of the parter."""
    number = least
    while parter.part(caps_of(number)) is None:
        number += 1
    return number


def trials_behind(box, frame, found):
    """The least number of trials that find out all where so much is suspected."""
    suspected, sure = found
    if sure:
        return doublings(len(suspected))
    return fewest_parts(Parter(box, frame, suspected), halving, doublings(len(suspected) + 1))


def trials_left(box, frame, heard):
    """The least number of trials with which it can surely be found out which switch is mute, or that none is."""
    check_frame(box, frame)
    return trials_behind(box, frame, suspected_of(box, frame, heard))


def wise(box, frame, heard):
    """A trial behind which fewer trials are left, whatever it tells; None if none is left."""
    check_frame(box, frame)
    suspected, sure = suspected_of(box, frame, heard)
    number = trials_behind(box, frame, (suspected, sure))
    if number == 0:
        return None
    if sure:
        # They all are in one trial that did not ring, so each part of them is a standing.
        return tuple(suspected[:len(suspected) // 2])
    return parting_of(Parter(box, frame, suspected), halving(number))[0]


def foe(box, frame, heard, trial):
    """What the trial is to tell so that more trials are left; True if equally many are."""
    check_frame(box, frame)
    found = suspected_of(box, frame, heard)
    if not is_trial(box, frame, trial):
        raise BadTrial("trial is a standing that is not ()")
    rung = behind_trial(found, trial, True)
    mute = behind_trial(found, trial, False)
    if rung is None or mute is None:
        return rung is not None
    return trials_behind(box, frame, rung) >= trials_behind(box, frame, mute)


def caps_for(telling, number):
    """The caps by which so many trials are enough: halving told whole, open ones told each."""
    return halving(number) if telling == WHOLE else open_caps(number)


def fewest_for(parter, telling):
    """The least number of trials for all switches of the parter."""
    if telling == WHOLE:
        return fewest_parts(parter, halving, doublings(len(parter.wires) + 1))
    return fewest_parts(parter, open_caps, 0)


def fewest_trials(box, frame, telling):
    """The least number of trials with which all is surely found out."""
    check_frame(box, frame)
    check_telling(telling)
    return fewest_for(Parter(box, frame, reached(box, frame)), telling)


def trials_paper(box, frame, telling):
    """The least number of trials, a parting by so many caps, and a bar by those for one less."""
    check_frame(box, frame)
    check_telling(telling)
    parter = Parter(box, frame, reached(box, frame))
    check_listed(parter)
    number = fewest_for(parter, telling)
    held = None if number == 0 else bar_nodes(parter, caps_for(telling, number - 1))
    return (number, parting_of(parter, caps_for(telling, number)), held)


def is_trials_paper(box, frame, telling, thing):
    """Whether any value is such a number with a parting and a bar that show it."""
    check_frame(box, frame)
    check_telling(telling)
    if not is_tuple_of(thing, 3) or not is_within(thing[0], 0, MOST_CAPS):
        return False
    number, parts, held = thing
    some = tuple(reached(box, frame))
    if not is_parting_of(box, frame, some, caps_for(telling, number), parts):
        return False
    if number == 0:
        return held is None
    return BarJudge(box, frame, Parter(box, frame, some), caps_for(telling, number - 1)).is_bar(held)
