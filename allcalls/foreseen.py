"""All told: rows of calls that no box answers that knows them whole, and families that show that there are none."""

from allcalls.ages import Ages
from allcalls.counts import no_wires
from allcalls.errors import BadRow, TooMany
from allcalls.keepings import check_game
from allcalls.kinds import is_plain, rises
from allcalls.seats import called, is_call_at

MOST_LISTS = 5000


def is_row_at(box, frame, load, thing):
    """Whether any value is a row of calls at the load of the frame."""
    if not isinstance(thing, tuple):
        return False
    for call in thing:
        if not is_call_at(box.sides, frame, load, call):
            return False
        load = called(box.sides, load, call)
    return True


def set_after(ages, held, load, row):
    """The set of the seatings that can stand behind the row if one of the set held, of the load, stood ahead."""
    for call in row:
        step = ages.steps_at(load)[ages.calls_of(load).index(call)]
        held = ages.set_behind(step, held)
        load = step.after
    return held


def seatings_in(ages, held):
    """The ascending list of the seatings of the set held."""
    return [ages.seatings[number] for number in ages.shelf.rows[held]]


def behind(box, frame, moves, row):
    """The ascending list of the seatings that can stand behind the row if the box answers as it likes."""
    check_game(box, frame, moves)
    empty = no_wires(box.sides)
    if not is_row_at(box, frame, empty, row):
        raise BadRow("row is a row of calls at the load of no wires")
    ages = Ages(box, frame, moves)
    return seatings_in(ages, set_after(ages, ages.shelf.put([0]), empty, row))


def is_dead(box, frame, moves, thing):
    """Whether any value is a row of calls that no box answers, even if it knows it whole."""
    check_game(box, frame, moves)
    ages = Ages(box, frame, moves)
    empty = no_wires(box.sides)
    if not is_row_at(box, frame, empty, thing):
        return False
    return not ages.shelf.rows[set_after(ages, ages.shelf.put([0]), empty, thing)]


def row_to(came, held):
    """The row of calls by which the set held was come to."""
    row = []
    while came[held] is not None:
        held, call = came[held]
        row.append(call)
    return tuple(row[::-1])


def foreseen_walk(ages):
    """The pair of the sets behind rows, the keys of a dict, and the first dead row (None if there is none)."""
    start = ages.shelf.put([0])
    came = {start: None}
    reached = [start]
    done = 0
    # The first shortest rows come first, since each set's calls are taken ascending.
    while done < len(reached):
        held = reached[done]
        done += 1
        for step in ages.steps_at(ages.loads[ages.shelf.rows[held][0]]):
            other = ages.set_behind(step, held)
            if not ages.shelf.rows[other]:
                return (came, row_to(came, held) + (step.call,))
            if other not in came:
                came[other] = (held, step.call)
                reached.append(other)
                if len(reached) > MOST_LISTS:
                    raise TooMany(MOST_LISTS)
    return (came, None)


def dead_row(box, frame, moves):
    """The first shortest dead row; None if there is none."""
    check_game(box, frame, moves)
    _, row = foreseen_walk(Ages(box, frame, moves))
    return row


def family(box, frame, moves):
    """The tuple of what can stand behind each row; None if there is a dead row."""
    check_game(box, frame, moves)
    ages = Ages(box, frame, moves)
    came, row = foreseen_walk(ages)
    if row is not None:
        return None
    ways = sorted([ages.shelf.rows[held] for held in came])
    return tuple([tuple([ages.seatings[number] for number in one]) for one in ways])


def numbers_in(ages, thing):
    """The ascending tuple of the numbers of seatings of one load that any value has; None if it is no such tuple."""
    if not isinstance(thing, tuple) or not is_plain(thing) or len(thing) == 0:
        return None
    found = []
    for seating in thing:
        if seating not in ages.place:
            return None
        found.append(ages.place[seating])
        if ages.loads[found[0]] != ages.loads[found[-1]]:
            return None
    return tuple(found) if rises(found) else None


def is_member_within(ages, rows, held):
    """Whether one of the rows of numbers has none but those of the set held."""
    known = ages.shelf.known_in(held)
    for row in rows:
        if not [number for number in row if number not in known]:
            return True
    return False


def are_calls_answered(ages, groups, row):
    """Whether, for each call at the load of the row, one of the rows of groups answers it each time."""
    held = ages.shelf.put(row)
    for step in ages.steps_at(ages.loads[row[0]]):
        if not is_member_within(ages, groups.get(step.after, []), ages.set_behind(step, held)):
            return False
    return True


def is_family(box, frame, moves, thing):
    """Whether any value is a family."""
    check_game(box, frame, moves)
    ages = Ages(box, frame, moves)
    if not isinstance(thing, tuple):
        return False
    rows = [numbers_in(ages, item) for item in thing]
    if None in rows or not rises(rows) or (0,) not in rows:
        return False
    groups = {}
    # Sets with few members are the likeliest to lie within another one.
    for row in sorted(rows, key=len):
        groups.setdefault(ages.loads[row[0]], []).append(row)
    for row in rows:
        if not are_calls_answered(ages, groups, row):
            return False
    return True
