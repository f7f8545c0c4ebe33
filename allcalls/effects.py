"""The effects of rows of calls: from which seatings to which others they may lead; and which ones are endless."""

from allcalls.counts import first_loads
from allcalls.errors import TooMany

MOST_EFFECTS = 2000
# Between each two loads of a frame there is a row, so more loads than these have too many effects.
MOST_LOADS = 44


class Effects:
    """All effects of rows at the loads of a frame, numbered as they are found.

    loads, others: the loads at which an effect begins and ends. parts: for each seating of the first load the set of
    those that can stand behind the row. arrows: for each effect those that one call more makes of it. depths: how
    many calls the longest row has that makes it, if it is not endless.
    """

    def __init__(self, ages):
        self.ages = ages
        self.loads = []
        self.others = []
        self.parts = []
        self.arrows = []
        self.place = {}
        loads = first_loads(ages.frame, MOST_LOADS + 1)
        if len(loads) > MOST_LOADS:
            raise TooMany(MOST_EFFECTS)
        for load in loads:
            self.number_of(load, load, tuple([ages.shelf.put([k]) for k in ages.group(load)]))
        done = 0
        while done < len(self.loads):
            self.arrows.append(self.lead_on(done))
            done += 1
        self.ends = self.find_endless()
        self.depths = self.find_depths()

    def number_of(self, load, other, parts):
        """The number of the effect, which is added if it is new; TooMany(2000) if there are more."""
        name = (load, other, parts)
        if name not in self.place:
            if len(self.loads) == MOST_EFFECTS:
                raise TooMany(MOST_EFFECTS)
            self.place[name] = len(self.loads)
            self.loads.append(load)
            self.others.append(other)
            self.parts.append(parts)
        return self.place[name]

    def lead_on(self, k):
        """The list of the effects that one call more makes of that of number k."""
        found = []
        for step in self.ages.steps_at(self.others[k]):
            parts = tuple([self.ages.set_behind(step, held) for held in self.parts[k]])
            found.append(self.number_of(self.loads[k], step.after, parts))
        return found

    def find_endless(self):
        """The list of those that are not endless, each behind all that lead to it.

        An effect is endless exactly if some circle of arrows leads to it; so what has no arrows to it any more,
        when those from the ones that are not endless are taken away, is not endless.
        """
        counts = [0] * len(self.arrows)
        for arrows in self.arrows:
            for other in arrows:
                counts[other] += 1
        ends = [k for k in range(len(counts)) if counts[k] == 0]
        done = 0
        while done < len(ends):
            arrows = self.arrows[ends[done]]
            for other in arrows:
                counts[other] -= 1
                if counts[other] == 0:
                    ends.append(other)
            done += 1
        return ends

    def find_depths(self):
        """The dict from those that are not endless to the length of the longest row that makes them."""
        depths = {k: 0 for k in self.ends}
        for k in self.ends:
            for other in self.arrows[k]:
                if other in depths:
                    depths[other] = max(depths[other], depths[k] + 1)
        return depths

    def numbered(self, k):
        """The effect of number k with the numbers of its seatings, as a triple of two loads and pairs."""
        pairs = []
        for number, held in zip(self.ages.group(self.loads[k]), self.parts[k]):
            pairs.extend([(number, other) for other in self.ages.shelf.rows[held]])
        return (self.loads[k], self.others[k], tuple(pairs))


def effect_told(ages, numbered):
    """The effect with its seatings in place of their numbers."""
    load, other, pairs = numbered
    return (load, other, tuple([(ages.seatings[one], ages.seatings[two]) for one, two in pairs]))
