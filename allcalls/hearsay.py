"""What an outsider can tell who hears what is asked, but not what is answered."""

from allcalls.errors import BadAt, NoRun
from allcalls.frames import check_standing
from allcalls.hearings import Hearing, check_heard
from allcalls.kinds import is_row, is_tuple_of, is_within
from allcalls.ways import is_standing_of


def check_at(heard, at):
    """Raise BadAt unless at is a number from 0 to the number of items."""
    if not is_within(at, 0, len(heard)):
        raise BadAt("at is a number from 0 to the number of items")


def are_standings(box, frame, thing):
    """Whether any value is a list of standings."""
    if not is_row(thing):
        return False
    for standing in thing:
        if not is_standing_of(box, frame, standing):
            return False
    return True


def is_run(box, frame, moves, heard, thing):
    """Whether any value is a run."""
    check_heard(box, frame, moves, heard)
    hearing = Hearing(box, frame, moves, heard)
    if not are_standings(box, frame, thing) or len(thing) != len(heard) + 1 or thing[0] != ():
        return False
    numbers = [hearing.place[standing] for standing in thing]
    for at in range(len(heard)):
        if not hearing.leads(at, numbers[at], numbers[at + 1]):
            return False
    return True


def may_stand(box, frame, moves, heard):
    """The list, for all indexes, of the ascending lists of the standings that some run has there."""
    check_heard(box, frame, moves, heard)
    hearing = Hearing(box, frame, moves, heard)
    return [[hearing.ways[k] for k in row] for row in hearing.rows_through()]


def surely(box, frame, moves, heard, at):
    """The ascending tuple of the switches that every run has at the index."""
    check_heard(box, frame, moves, heard)
    check_at(heard, at)
    hearing = Hearing(box, frame, moves, heard)
    row = hearing.rows_through()[at]
    if not row:
        raise NoRun("there is a run")
    common = hearing.marks[row[0]]
    for k in row:
        common = common & hearing.marks[k]
    return tuple([switch for switch in box.switches if hearing.bits[switch] & common])


def checked_hearing(box, frame, moves, heard, at, standing):
    """The hearing, if all are as they are described."""
    check_heard(box, frame, moves, heard)
    check_at(heard, at)
    check_standing(box, frame, standing)
    return Hearing(box, frame, moves, heard)


def ahead_of(hearing, at, row, other):
    """The first of the numbers of a row at which the item has the other one as an answer; None if there is none."""
    for k in row:
        if hearing.leads(at, k, other):
            return k
    return None


def run_through(box, frame, moves, heard, at, standing):
    """A run that has the standing at the index; None if none has."""
    hearing = checked_hearing(box, frame, moves, heard, at, standing)
    here = hearing.place[standing]
    rows = hearing.rows_through()
    if here not in rows[at]:
        return None
    behind = hearing.run_on(at, here, rows)
    # Backwards each standing has one ahead of it that leads to it.
    found = [here]
    for index in range(at - 1, -1, -1):
        found.append(ahead_of(hearing, index, rows[index], found[-1]))
    return [hearing.ways[k] for k in list(reversed(found)) + behind[1:]]


def fence(box, frame, moves, heard, at, standing):
    """A fence for the index and the standing; None if some run has it there."""
    hearing = checked_hearing(box, frame, moves, heard, at, standing)
    here = hearing.place[standing]
    before = hearing.rows_from(0, 0)[:at + 1]
    if here not in before[at]:
        return ("before", [[hearing.ways[k] for k in row] for row in before])
    behind = hearing.rows_from(at, here)
    if behind[-1]:
        return None
    return ("behind", [[hearing.ways[k] for k in row] for row in behind])


def are_closed(hearing, first, rows):
    """Whether all answers to what is due at a standing of a row are in the next row; the first row has this index."""
    known = [{hearing.place[standing]: True for standing in row} for row in rows]
    for step in range(len(rows) - 1):
        for k in known[step]:
            if hearing.is_due(first + step, k):
                for other in hearing.answers_at(first + step, k):
                    if other not in known[step + 1]:
                        return False
    return True


def is_fence(box, frame, moves, heard, at, standing, thing):
    """Whether any value is a fence for the index and the standing."""
    hearing = checked_hearing(box, frame, moves, heard, at, standing)
    if not is_tuple_of(thing, 2) or not isinstance(thing[0], str) or not is_row(thing[1]):
        return False
    word, rows = thing
    for row in rows:
        if not are_standings(box, frame, row):
            return False
    if word == "before":
        right = len(rows) == at + 1 and () in rows[0] and standing not in rows[at]
        return right and are_closed(hearing, 0, rows)
    if word != "behind" or len(rows) != len(heard) - at + 1:
        return False
    return standing in rows[0] and len(rows[-1]) == 0 and are_closed(hearing, at, rows)
