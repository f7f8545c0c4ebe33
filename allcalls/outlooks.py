"""What lies ahead of the positions in which switches break: which of them are safe, and what answers lead to."""

from allcalls.breaktables import BreakFalls, BreakTable
from allcalls.games import is_few
from allcalls.packs import bits_in


class Outlook:
    """All positions, and those that are lost, with their ranks and what is asked there; TooMany(5000) if too many."""

    def __init__(self, box, frame, moves, number):
        self.moves = moves
        self.table = BreakTable(box, frame, number)
        self.nodes = BreakFalls(self.table, moves).nodes

    def node_at(self, position):
        """The pair of the rank of a position and of what is asked there; None if it is safe."""
        return self.nodes.get(self.table.place[position])

    def answers_at(self, position, asked):
        """The ascending list of the numbers of the positions that answer what is asked."""
        own, choices = self.table.choices_at(self.table.place[position], asked)
        return [k for k in choices if is_few(own & ~self.table.marks[k], self.moves)]

    def safe_answers(self, position, asked):
        """The ascending list of the standings of the answers that are safe."""
        found = self.answers_at(position, asked)
        return [self.table.positions[k][1] for k in found if k not in self.nodes]

    def peril_of(self, position, asked):
        """The pair of the rank that what is asked gives, and it; None if some answer is safe."""
        rank = 0
        for k in self.answers_at(position, asked):
            if k not in self.nodes:
                return None
            rank = max(rank, self.nodes[k][0] + 1)
        return (rank, asked)

    def nearest_safe(self, position):
        """The standing that can be laid here, is safe and lacks the fewest switches of this one; None if there is none.

        Of these the least.
        """
        here = self.table.place[position]
        group = self.table.groups[(self.table.lots[here], self.table.loads[here])]
        own = self.table.marks[here]
        found = [(bits_in(own & ~self.table.marks[k]), k) for k in group if k not in self.nodes]
        return self.table.positions[min(found)[1]][1] if found else None
