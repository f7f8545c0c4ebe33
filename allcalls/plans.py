"""The game in which so many calls are told ahead: its positions, by rows of calls, and which of them are lost."""

from allcalls.errors import TooMany
from allcalls.seats import called

MOST_POSITIONS = 20000


class RowBook:
    """The rows of calls at loads of a frame, and the loads to which they lead."""

    def __init__(self, ages):
        self.ages = ages
        self.many = {}
        self.told = {}

    def many_at(self, load, length):
        """How many rows of so many calls there are at the load."""
        if length == 0:
            return 1
        if (load, length) not in self.many:
            total = 0
            for call in self.ages.calls_of(load):
                total += self.many_at(called(self.ages.sides, load, call), length - 1)
            self.many[(load, length)] = total
        return self.many[(load, length)]

    def rows_of(self, load, length):
        """The ascending list of the pairs of a row of so many calls at the load and the load to which it leads."""
        if length == 0:
            return [((), load)]
        if (load, length) not in self.told:
            found = []
            for call in self.ages.calls_of(load):
                for row, end in self.rows_of(called(self.ages.sides, load, call), length - 1):
                    found.append(((call,) + row, end))
            self.told[(load, length)] = found
        return self.told[(load, length)]


def check_positions(ages, book, ahead):
    """Raise TooMany(20000) if there are more positions with so many calls told ahead."""
    # With more calls told there are never fewer rows, so it is seen early if there are far too many.
    for length in range(ahead + 1):
        total = sum([len(group) * book.many_at(load, length) for load, group in ages.groups.items()])
        if total > MOST_POSITIONS:
            raise TooMany(MOST_POSITIONS)


class Plan:
    """The positions with so many calls told ahead: each row of calls at a load stands for a set of seatings.

    rows: the pairs of a row and the load to which it leads. loads: the load at which it is. first: from each load to
    the number of its first row. past: to the number behind its last one. steps: for each row the steps that may be
    answered next. blocks: for each of these the numbers of the first row that may be told then, and of that behind
    the last one; None if the step leads to a load without seatings. followers: for the first row of each block the
    pairs (number, index) of those that may be followed by it, and of which of its steps. leaders: for each row the
    first one of its block.
    """

    def __init__(self, ages, book, ahead):
        self.ages = ages
        self.ahead = ahead
        self.rows = []
        self.loads = []
        self.first = {}
        self.past = {}
        for load in sorted(ages.groups):
            self.first[load] = len(self.rows)
            found = book.rows_of(load, ahead)
            self.rows.extend(found)
            self.loads.extend([load] * len(found))
            self.past[load] = len(self.rows)
        self.starts = {load: self.block_starts(book, load) for load in ages.groups}
        self.steps = []
        self.blocks = []
        for load in sorted(ages.groups):
            self.link(book, load)
        self.followers = [[] for _ in self.rows]
        for k, blocks in enumerate(self.blocks):
            for at, block in enumerate(blocks):
                if block is not None:
                    self.followers[block[0]].append((k, at))
        self.leaders = self.block_leaders()

    def block_starts(self, book, load):
        """The numbers of the first rows of the blocks of those at the load that differ in the last call alone.

        Behind them stands the number behind the last row. If no call is told ahead, the one row is the one block.
        """
        starts = [self.first[load]]
        if self.ahead == 0:
            return starts + [starts[0] + 1]
        for _, end in book.rows_of(load, self.ahead - 1):
            starts.append(starts[-1] + len(self.ages.calls_of(end)))
        return starts

    def link(self, book, load):
        """Add the steps and blocks of the rows at the load, in their order."""
        steps = self.ages.steps_at(load)
        if self.ahead == 0:
            self.steps.append(steps)
            self.blocks.append([self.block(step.after, 0) for step in steps])
            return
        for step in steps:
            for at in range(len(book.rows_of(step.after, self.ahead - 1))):
                self.steps.append([step])
                self.blocks.append([self.block(step.after, at)])

    def block(self, load, at):
        """The block of this index at the load; None if the load has no seatings."""
        if load not in self.starts:
            return None
        return (self.starts[load][at], self.starts[load][at + 1])

    def block_leaders(self):
        """The list that tells, for each row, the first one of its block."""
        found = []
        for load in sorted(self.starts):
            starts = self.starts[load]
            for k in range(len(starts) - 1):
                found.extend([starts[k]] * (starts[k + 1] - starts[k]))
        return found

    def last_call(self, k, step):
        """The call that was told last where the row of number k is told next, behind the step."""
        return step.call if self.ahead == 0 else self.rows[k][0][-1]

    def first_call(self, k, step):
        """The first call that may be told at the row of number k, if the step is answered then."""
        return step.call if self.ahead == 0 else self.ages.calls_of(self.rows[k][1])[0]


class Falls:
    """Which seatings are lost at the rows of a plan, round by round.

    sets: for each row the set of those that are not. lost: for each row the list of triples: the rank, the first call
    by which it comes, and the set of the seatings that have it.
    """

    def __init__(self, plan):
        self.plan = plan
        self.sets = [plan.ages.all_with(load) for load in plan.loads]
        self.lost = [[] for _ in plan.rows]
        hit = self.first_hits()
        rank = 0
        while hit:
            fresh = {}
            for k, calls in hit.items():
                left = self.settle(k, calls, rank)
                if left != self.sets[k]:
                    fresh[k] = left
            # All of a round are judged by what was left ahead of it.
            for k, left in fresh.items():
                self.sets[k] = left
            hit = self.hits_by(sorted(fresh))
            rank += 1

    def first_hits(self):
        """For each row triples of a call that may be told, the step that is answered, and the row told then.

        Nothing is lost yet, so of the calls with one and the same step the first one tells all. The row is None if
        the step leads to a load without seatings.
        """
        hit = {}
        for k, steps in enumerate(self.plan.steps):
            found = []
            for step, block in zip(steps, self.plan.blocks[k]):
                found.append((self.plan.first_call(k, step), step, None if block is None else block[0]))
            hit[k] = found
        return hit

    def hits_by(self, fresh):
        """Such triples for each row that may be followed by one of the fresh ones."""
        hit = {}
        for k in fresh:
            for other, at in self.plan.followers[self.plan.leaders[k]]:
                step = self.plan.steps[other][at]
                hit.setdefault(other, []).append((self.plan.last_call(k, step), step, k))
        return hit

    def settle(self, k, calls, rank):
        """The set of the seatings that are left at the row of number k; those lost by the calls are written down."""
        ages = self.plan.ages
        left = self.sets[k]
        for call, step, other in sorted(calls, key=lambda one: one[0]):
            good = ages.shelf.put([]) if other is None else ages.set_before(step, self.sets[other])
            out, left = ages.shelf.parted(left, good)
            if ages.shelf.rows[out]:
                self.lost[k].append((rank, call, out))
        return left
