"""How many loads there are, without telling them one by one; and loads told up to a limit."""

from allcalls.counts import is_below


def tally_within(room, budget):
    """How many tuples there are with a sum of at most budget and no number above that of room."""
    # ways has, for each sum, how many beginnings of such tuples have it.
    ways = [1] + [0] * budget
    for most in room:
        after = []
        total = 0
        for k in range(budget + 1):
            total += ways[k]
            if k > most:
                total -= ways[k - most - 1]
            after.append(total)
        ways = after
    return sum(ways)


def different(rows):
    """The ascending tuple of the different rows."""
    return tuple(sorted({row: True for row in rows}))


def tally_under(tops, known):
    """How many tuples are below some one of these different tuples; known keeps what was told before."""
    if len(tops) == 1:
        many = 1
        for number in tops[0]:
            many = many * (number + 1)
        return many
    if tops not in known:
        many = 0
        ahead = -1
        # All first numbers above one of those of tops, up to the next one, go on alike.
        for number in sorted({top[0]: True for top in tops}):
            rest = different([top[1:] for top in tops if top[0] >= number])
            many += (number - ahead) * tally_under(rest, known)
            ahead = number
        known[tops] = many
    return known[tops]


def tally_of(frame, most):
    """How many loads are of the frame; a number above most, if there are more than most."""
    for top in frame:
        many = tally_under((top,), {})
        if many > most:
            return many
    return tally_under(different(frame), {})


def tally_both(rooms, budget, known):
    """How many tuples with a sum of at most budget are below some one of these different rooms."""
    if len(rooms) == 1:
        return tally_within(rooms[0], budget)
    if (rooms, budget) not in known:
        many = 0
        for number in range(min(budget, max([room[0] for room in rooms])) + 1):
            rest = different([room[1:] for room in rooms if room[0] >= number])
            many += tally_both(rest, budget - number, known)
        known[(rooms, budget)] = many
    return known[(rooms, budget)]


def tally_above(frame, load, budget, most):
    """How many loads, no wires among them, of at most budget wires sum up with this one to a load of the frame.

    A number above most, if there are more than most.
    """
    rooms = []
    for top in frame:
        if is_below(load, top):
            room = tuple([min(budget, high - low) for low, high in zip(load, top)])
            many = tally_within(room, budget)
            if many > most:
                return many
            rooms.append(room)
    return tally_both(different(rooms), budget, {})


def loads_above(frame, load, budget):
    """The ascending list of the loads that tally_above counts."""
    found = []
    rest = [((), budget, [top for top in frame if is_below(load, top)])]
    while rest:
        more, left, tops = rest.pop()
        place = len(more)
        if place == len(load):
            found.append(more)
            continue
        for number in range(min(left, max([top[place] for top in tops]) - load[place]), -1, -1):
            inside = [top for top in tops if top[place] >= load[place] + number]
            rest.append((more + (number,), left - number, inside))
    return found
