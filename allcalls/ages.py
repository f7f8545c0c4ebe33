"""All seatings of a box and a frame, numbered ascending, and what calls make of sets of them."""

from itertools import combinations

from allcalls.counts import pair_place
from allcalls.seats import all_seatings, called, calls_at, without_place
from allcalls.shelves import Shelf


class Step:
    """A call at a load, the load to which it leads, and the wire by which the seatings at the two differ.

    down leads from the number of each seating with the wire to that of the one without; up leads back to lists.
    before and behind keep what Ages finds.
    """

    def __init__(self, load, call, after, down):
        self.load = load
        self.call = call
        self.after = after
        self.down = down
        self.up = {}
        for more, fewer in down.items():
            self.up.setdefault(fewer, []).append(more)
        self.before = {}
        self.behind = {}


class Ages:
    """The seatings of a box and a frame: their numbers, their loads, and the sets of them on a shelf.

    groups: from each load to the ascending numbers of its seatings. The empty seating has the number 0.
    """

    def __init__(self, box, frame, moves):
        self.sides = box.sides
        self.frame = frame
        self.moves = moves
        self.seatings = all_seatings(box, frame)
        self.place = {seating: k for k, seating in enumerate(self.seatings)}
        self.loads = [tuple([len(row) for row in seating]) for seating in self.seatings]
        self.groups = {}
        for k, load in enumerate(self.loads):
            self.groups.setdefault(load, []).append(k)
        self.shelf = Shelf()
        self.calls = {}
        self.steps = {}
        self.downs = {}
        self.spreads = {}
        self.alike = {}

    def calls_of(self, load):
        """The ascending list of the calls at a load of the frame."""
        if load not in self.calls:
            self.calls[load] = calls_at(self.sides, self.frame, load)
        return list(self.calls[load])

    def group(self, load):
        """The ascending list of the numbers of the seatings with the load."""
        return list(self.groups.get(load, []))

    def all_with(self, load):
        """The set of all seatings with the load."""
        return self.shelf.put(self.groups.get(load, []))

    def steps_at(self, load):
        """The list of the steps at a load of the frame, by their calls ascending."""
        if load not in self.steps:
            self.steps[load] = [self.step_of(load, call) for call in self.calls_of(load)]
        return list(self.steps[load])

    def step_of(self, load, call):
        """The step of the call at the load."""
        after = called(self.sides, load, call)
        at = pair_place(self.sides, call[1][0], call[1][1])
        if call[0] == "end":
            return Step(load, call, after, self.down_from(load, at, call[2]))
        return Step(load, call, after, self.down_from(after, at, load[at]))

    def down_from(self, load, at, place):
        """The dict from the seatings with the load to those without the wire at this place of the pair at."""
        if (load, at, place) not in self.downs:
            found = {}
            for k in self.groups.get(load, []):
                found[k] = self.place[without_place(self.seatings[k], at, place)]
            self.downs[(load, at, place)] = found
        return self.downs[(load, at, place)]

    def likenesses(self, load):
        """The pair of a dict from the seatings with the load to their buckets, and the list of the buckets.

        Two seatings are in one bucket if they hold the same switches at all places but as many as may be moved.
        """
        if load not in self.alike:
            places = {}
            own = {}
            buckets = []
            stay = int(sum(load) - self.moves)
            for k in self.groups[load]:
                wires = [wire for row in self.seatings[k] for wire in row]
                own[k] = []
                for stays in combinations(range(len(wires)), stay):
                    name = (stays, tuple([wires[place] for place in stays]))
                    if name not in places:
                        places[name] = len(buckets)
                        buckets.append([])
                    buckets[places[name]].append(k)
                    own[k].append(places[name])
            self.alike[load] = (own, buckets)
        return self.alike[load]

    def spread(self, load, held):
        """The set of the seatings with the load that may be come to by moves from some one of the set held."""
        if self.moves == 0 or not self.shelf.rows[held]:
            return held
        if self.moves >= sum(load):
            return self.all_with(load)
        if held not in self.spreads:
            own, buckets = self.likenesses(load)
            seen = {}
            found = {}
            for k in self.shelf.rows[held]:
                for bucket in own[k]:
                    if bucket not in seen:
                        seen[bucket] = True
                        for other in buckets[bucket]:
                            found[other] = True
            self.spreads[held] = self.shelf.put(sorted(found))
        return self.spreads[held]

    def set_before(self, step, held):
        """The set of all seatings at which some seating of the set held answers the step's call."""
        if held not in step.before:
            if step.call[0] == "end":
                step.before[held] = self.raised_by(step, held)
            else:
                step.before[held] = self.spread(step.load, self.lowered_by(step, held))
        return step.before[held]

    def set_behind(self, step, held):
        """The set of all seatings that answer the step's call at some seating of the set held."""
        if held not in step.behind:
            if step.call[0] == "end":
                step.behind[held] = self.lowered_by(step, held)
            else:
                step.behind[held] = self.raised_by(step, self.spread(step.load, held))
        return step.behind[held]

    def lowered_by(self, step, held):
        """The set of the seatings of the set held without the step's wire."""
        return self.shelf.put(sorted({step.down[k]: True for k in self.shelf.rows[held]}))

    def raised_by(self, step, held):
        """The set of all seatings with the step's wire that are of the set held without it."""
        found = []
        for k in self.shelf.rows[held]:
            found.extend(step.up.get(k, []))
        return self.shelf.put(sorted(found))
