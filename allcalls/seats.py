"""Seatings: wires named by their age, calls to them, rows of calls and answers."""

from itertools import combinations, permutations

from allcalls.boxes import has_switch
from allcalls.counts import is_load_of, is_of, is_pair_of_sides, one_more, pair_place, raised, side_pairs
from allcalls.errors import BadCall, BadLoad, BadMany, BadSeating, TooMany
from allcalls.frames import check_frame, check_moves
from allcalls.kinds import is_tuple_of, is_within
from allcalls.ways import all_standings, fillings, free_between, is_standing_of, load_of, pairs_wanted

MOST_SEATINGS = 5000
MOST_ROWS = 20000
MOST_MANY = 6


def standing_of(seating):
    """The ascending tuple of all switches of a seating."""
    wires = []
    for row in seating:
        wires.extend(row)
    return tuple(sorted(wires))


def is_between(box, pair, thing):
    """Whether any value is a tuple of switches of the box between the two sides."""
    if not isinstance(thing, tuple):
        return False
    for item in thing:
        if not has_switch(box, item) or (item[0][0], item[1][0]) != pair:
            return False
    return True


def is_seating_of(box, frame, thing):
    """Whether any value is a seating of the box and the frame."""
    pairs = side_pairs(box.sides)
    if not is_tuple_of(thing, len(pairs)):
        return False
    for pair, row in zip(pairs, thing):
        if not is_between(box, pair, row):
            return False
    return is_standing_of(box, frame, standing_of(thing))


def check_seating(box, frame, seating):
    """Raise BadSeating unless seating is a seating of the box and the frame."""
    if not is_seating_of(box, frame, seating):
        raise BadSeating("seating has a tuple of switches for each pair of sides, all together a standing")


def is_seating(box, frame, thing):
    """Whether any value is a seating of the box and the frame."""
    check_frame(box, frame)
    return is_seating_of(box, frame, thing)


def many_orders(load):
    """How many seatings a standing with this load has."""
    many = 1
    for number in load:
        for k in range(2, number + 1):
            many = many * k
    return many


def seatings_of(sides, standing):
    """All seatings whose standing this is."""
    found = [()]
    for pair in side_pairs(sides):
        wires = [switch for switch in standing if (switch[0][0], switch[1][0]) == pair]
        orders = list(permutations(wires))
        found = [seating + (order,) for seating in found for order in orders]
    return found


def all_seatings(box, frame):
    """The ascending list of all seatings; TooMany(5000) if there are more."""
    ways = all_standings(box, frame)
    if sum([many_orders(load_of(box.sides, way)) for way in ways]) > MOST_SEATINGS:
        raise TooMany(MOST_SEATINGS)
    found = []
    for way in ways:
        found.extend(seatings_of(box.sides, way))
    return sorted(found)


def seatings(box, frame):
    """The ascending list of all seatings of the box and the frame."""
    check_frame(box, frame)
    return all_seatings(box, frame)


def seated(box, frame, seating):
    """The standing of the seating."""
    check_frame(box, frame)
    check_seating(box, frame, seating)
    return standing_of(seating)


def check_frame_load(box, frame, load):
    """Raise BadLoad unless load is a load of the frame."""
    if not is_load_of(box.sides, load) or not is_of(frame, load):
        raise BadLoad("load is a load of the frame")


def calls_at(sides, frame, load):
    """The ascending list of the calls at a load of the frame."""
    found = []
    for pair, number in zip(side_pairs(sides), load):
        for place in range(number):
            found.append(("end", pair, place))
    for pair in pairs_wanted(sides, frame, load):
        found.append(("want", pair))
    return found


def called(sides, load, call):
    """The load to which the call leads."""
    by = 1 if call[0] == "want" else -1
    return raised(load, pair_place(sides, call[1][0], call[1][1]), by)


def is_call_at(sides, frame, load, thing):
    """Whether any value is a call at the load of the frame."""
    if is_tuple_of(thing, 2):
        if thing[0] != "want" or not is_pair_of_sides(sides, thing[1]):
            return False
        return is_of(frame, one_more(sides, load, thing[1]))
    if not is_tuple_of(thing, 3) or thing[0] != "end" or not is_pair_of_sides(sides, thing[1]):
        return False
    side, far = thing[1]
    return is_within(thing[2], 0, load[pair_place(sides, side, far)] - 1)


def calls(box, frame, load):
    """The ascending list of the calls at the load."""
    check_frame(box, frame)
    check_frame_load(box, frame, load)
    return calls_at(box.sides, frame, load)


def rows_at(sides, frame, load, many):
    """The ascending list of the rows of so many calls at the load; TooMany(20000) if there are more."""
    found = []
    known = {}
    rest = [((), load)]
    while rest:
        row, at = rest.pop()
        if len(row) == many:
            found.append(row)
            if len(found) > MOST_ROWS:
                raise TooMany(MOST_ROWS)
            continue
        if at not in known:
            known[at] = calls_at(sides, frame, at)
        for call in reversed(known[at]):
            rest.append((row + (call,), called(sides, at, call)))
    return found


def call_rows(box, frame, load, many):
    """The ascending list of the rows of so many calls at the load."""
    check_frame(box, frame)
    check_frame_load(box, frame, load)
    if not is_within(many, 0, MOST_MANY):
        raise BadMany("many is a number from 0 to 6")
    return rows_at(box.sides, frame, load, many)


def without_place(seating, at, place):
    """The seating without the wire at this place of the pair with the index at."""
    row = seating[at]
    return seating[:at] + (row[:place] + row[place + 1:],) + seating[at + 1:]


def kept_wires(seating, gone):
    """The ascending tuple of the switches at the places that are not in gone."""
    wires = []
    for at, row in enumerate(seating):
        for place, switch in enumerate(row):
            if (at, place) not in gone:
                wires.append(switch)
    return tuple(sorted(wires))


def moved_choices(box, seating, gone, pair):
    """For each place in gone the switches that it may move to; behind them those for one wire more of the pair."""
    kept = kept_wires(seating, gone)
    pairs = side_pairs(box.sides)
    choices = []
    for at, place in gone:
        free = free_between(box, kept, pairs[at])
        choices.append([switch for switch in free if switch != seating[at][place]])
    choices.append(free_between(box, kept, pair))
    return choices


def reseated(seating, gone, chosen, own):
    """The seating with the chosen switches at the places in gone, and the last one behind those of the own pair."""
    rows = [list(row) for row in seating]
    for (at, place), switch in zip(gone, chosen):
        rows[at][place] = switch
    rows[own].append(chosen[-1])
    return tuple([tuple(row) for row in rows])


def seatings_answering(box, moves, seating, call):
    """The ascending list of the seatings that answer the call, with so many moves."""
    own = pair_place(box.sides, call[1][0], call[1][1])
    if call[0] == "end":
        return [without_place(seating, own, call[2])]
    places = [(at, place) for at, row in enumerate(seating) for place in range(len(row))]
    found = []
    for many in range(min(moves, len(places)) + 1):
        for gone in combinations(places, many):
            choices = moved_choices(box, seating, gone, call[1])
            # No two places are alike, so all labels differ.
            for chosen in fillings(list(range(many + 1)), choices, None):
                found.append(reseated(seating, gone, chosen, own))
    return sorted(found)


def call_answers(box, frame, moves, seating, call):
    """The ascending list of the seatings that answer the call at the seating, with so many moves."""
    check_frame(box, frame)
    check_moves(moves)
    check_seating(box, frame, seating)
    if not is_call_at(box.sides, frame, load_of(box.sides, standing_of(seating)), call):
        raise BadCall("call is a call at the load of the seating")
    return seatings_answering(box, moves, seating, call)
