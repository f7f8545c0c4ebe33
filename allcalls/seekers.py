"""Seekers: each holds on to the first of its answers that still stands, until none does."""

from allcalls.games import is_few


class Seekers:
    """Seekers numbered as they come: each has a mark of its switches and a list of what may answer, ascending.

    An answer lacks at most so many bits of the seeker's mark, and has not been dropped.
    """

    def __init__(self, marks, moves):
        self.marks = marks
        self.moves = moves
        self.own = []
        self.choices = []
        self.at = []
        self.held = {}
        self.dropped = {}

    def seek(self, own, choices):
        """Add a seeker with this mark; whether it finds an answer among the numbers in choices."""
        self.own.append(own)
        self.choices.append(choices)
        self.at.append(0)
        return self.hold(len(self.own) - 1)

    def hold(self, seeker):
        """Whether the seeker finds an answer that is not dropped, from the place on where it is."""
        choices = self.choices[seeker]
        for at in range(self.at[seeker], len(choices)):
            one = choices[at]
            if one not in self.dropped and is_few(self.own[seeker] & ~self.marks[one], self.moves):
                # What lies ahead is dropped or no answer, and stays so.
                self.at[seeker] = at
                self.held.setdefault(one, []).append(seeker)
                return True
        return False

    def drop(self, numbers):
        """Drop what has these numbers; the list of the seekers that have no answer any more."""
        for one in numbers:
            self.dropped[one] = True
        lone = []
        for one in numbers:
            waiting = self.held.pop(one, [])
            for seeker in waiting:
                if not self.hold(seeker):
                    lone.append(seeker)
        return lone
