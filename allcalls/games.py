"""The game of asking and answering, over all standings of a box and a frame, which are numbered ascending."""

from allcalls.counts import one_more
from allcalls.ways import all_standings, less, load_of, pairs_wanted


class Table:
    """All standings, and what an end leaves or a want asks for, whatever the number of moves.

    ways: the standings. place: from each to its number. loads: their loads. groups: from each load to the numbers of
    its standings. ends: for each number those of the standings that its ends leave, in the order of its switches.
    above: for each number those that leave it by an end. wants: for each load the pairs that are wanted there.
    """

    def __init__(self, box, frame):
        self.sides = box.sides
        self.ways = all_standings(box, frame)
        self.place = {way: k for k, way in enumerate(self.ways)}
        self.loads = [load_of(box.sides, way) for way in self.ways]
        self.groups = {}
        for k, load in enumerate(self.loads):
            self.groups.setdefault(load, []).append(k)
        self.ends = [[self.place[less(way, switch)] for switch in way] for way in self.ways]
        self.above = [[] for _ in self.ways]
        for k, left in enumerate(self.ends):
            for other in left:
                self.above[other].append(k)
        self.wants = {load: pairs_wanted(box.sides, frame, load) for load in self.groups}
        self.marks = marks_of(box, self.ways)


class Links:
    """The wants of a table, numbered by standing, then by pair, with their answers with so many moves.

    owner: the number of a want's standing. pairs: its pair. answers: the ascending numbers of its answers. first: for
    each standing the number of its first want, and behind all how many wants there are. back: for each standing the
    wants that it is an answer to.
    """

    def __init__(self, table, moves):
        self.owner = []
        self.pairs = []
        self.answers = []
        self.first = []
        self.back = [[] for _ in table.ways]
        for k, load in enumerate(table.loads):
            self.first.append(len(self.owner))
            for pair in table.wants[load]:
                self.owner.append(k)
                self.pairs.append(pair)
                self.answers.append(answers_of(table, moves, k, pair))
        self.first.append(len(self.owner))
        for want, found in enumerate(self.answers):
            for k in found:
                self.back[k].append(want)


def marks_of(box, ways):
    """The list of whole numbers that have a bit for each switch of a way."""
    bits = {switch: 1 << k for k, switch in enumerate(box.switches)}
    return [sum([bits[switch] for switch in way]) for way in ways]


def is_few(mark, most):
    """Whether a mark has at most so many bits."""
    for _ in range(most):
        if mark == 0:
            return True
        mark = mark & (mark - 1)
    return mark == 0


def answers_of(table, moves, k, pair):
    """The ascending numbers of the answers to a want at the standing of number k."""
    group = table.groups.get(one_more(table.sides, table.loads[k], pair), [])
    if moves >= len(table.ways[k]):
        return list(group)
    own = table.marks[k]
    return [other for other in group if is_few(own & ~table.marks[other], moves)]


def ranks_of(table, links, barred):
    """The list of the ranks of all standings: None for those that are not lost, or of barred (a dict of numbers)."""
    ranks = [None] * len(table.ways)
    counts = [len([one for one in found if one not in barred]) for found in links.answers]
    reached = []
    for k in range(len(table.ways)):
        if k not in barred and is_stranded(table, links, barred, counts, k):
            ranks[k] = 0
            reached.append(k)
    done = 0
    # Those with lesser ranks come first, so what is found lost by them has no lesser rank than it is given.
    while done < len(reached):
        k = reached[done]
        done += 1
        hit = list(table.above[k])
        for want in links.back[k]:
            counts[want] -= 1
            if counts[want] == 0:
                hit.append(links.owner[want])
        for other in hit:
            if ranks[other] is None and other not in barred:
                ranks[other] = ranks[k] + 1
                reached.append(other)
    return ranks


def places_of(table, ways):
    """The dict with the numbers of these standings as its keys."""
    return {table.place[way]: True for way in ways}


def is_stranded(table, links, barred, counts, k):
    """Whether the standing of number k has an asking without an answer that is not barred."""
    for want in range(links.first[k], links.first[k + 1]):
        if counts[want] == 0:
            return True
    for other in table.ends[k]:
        if other in barred:
            return True
    return False


def rank_by(ranks, barred, found):
    """The rank that an asking with these answers gives; None if it gives none."""
    rank = 0
    for k in found:
        if k in barred:
            continue
        if ranks[k] is None:
            return None
        rank = max(rank, ranks[k] + 1)
    return rank


def asking_of(table, links, ranks, barred, k):
    """The first asking by which the lost standing of number k has its rank."""
    for switch, other in zip(table.ways[k], table.ends[k]):
        if rank_by(ranks, barred, [other]) == ranks[k]:
            return ("end", switch)
    for want in range(links.first[k], links.first[k + 1]):
        if rank_by(ranks, barred, links.answers[want]) == ranks[k]:
            return ("want", links.pairs[want])
    return None


def kept_in(table, ranks, barred):
    """The ascending list of the numbers of the greatest keeping; [] if there is none."""
    kept = [k for k in range(len(table.ways)) if ranks[k] is None and k not in barred]
    # The standing () has the number 0.
    return kept if 0 in kept else []


def kept_ways(table, kept):
    """The ascending tuple of the standings of these numbers; None if there is none."""
    return tuple([table.ways[k] for k in kept]) if kept else None


def doom_of(table, links, ranks, barred):
    """The dict from all lost standings to their ranks and first askings; {} if () is of barred."""
    if 0 in barred:
        return {}
    found = {}
    for k, way in enumerate(table.ways):
        if ranks[k] is not None:
            found[way] = (ranks[k], asking_of(table, links, ranks, barred, k))
    return found


def counts_within(links, kept):
    """The list of how many answers to each want are of kept (a dict of numbers)."""
    return [len([k for k in found if k in kept]) for found in links.answers]


def fallen(table, links, kept, counts, k):
    """The dict of the numbers of a keeping that are lost if that of number k is barred, k among them.

    kept has the numbers of the keeping as keys; counts are counts_within it. If () is lost, it need not be all.
    """
    left = list(counts)
    gone = {k: True}
    reached = [k]
    while reached and 0 not in gone:
        one = reached.pop()
        hit = list(table.above[one])
        for want in links.back[one]:
            left[want] -= 1
            if left[want] == 0:
                hit.append(links.owner[want])
        for other in hit:
            if other in kept and other not in gone:
                gone[other] = True
                reached.append(other)
    return gone


def needed_doom(table, links, ranks, barred):
    """The part of the doom that an asker needs who begins at () and always asks by it."""
    nodes = {}
    reached = [0]
    while reached:
        k = reached.pop()
        if k in nodes or k in barred:
            continue
        asking = asking_of(table, links, ranks, barred, k)
        nodes[k] = (ranks[k], asking)
        reached.extend(numbers_behind(table, links, k, asking))
    return {table.ways[k]: nodes[k] for k in sorted(nodes)}


def numbers_behind(table, links, k, asking):
    """The list of the numbers of the answers to an asking at the standing of number k."""
    if asking[0] == "end":
        return [table.place[less(table.ways[k], asking[1])]]
    for want in range(links.first[k], links.first[k + 1]):
        if links.pairs[want] == asking[1]:
            return list(links.answers[want])
    return []
