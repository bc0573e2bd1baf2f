"""What is come to, what is lost with a part, and what hangs on what."""

from whykept.runs import entered_by_runs
from whykept.ways import BY_BRANCHES, chains_by, tables_of

EXACTLY = 2


class Reach:
    """What is come to by one mode; the tables, and what is come to in all, are found once."""

    def __init__(self, program, mode):
        self.program = program
        self.tables = None if mode == EXACTLY else tables_of(program, mode)
        self.whole = self.come_to([])

    def come_to(self, away):
        """The parts that are come to with these left away, in order."""
        if self.tables is None:
            found = entered_by_runs(self.program, away)
        else:
            found = {}
            for table in self.tables:
                found.update(chains_by(table, self.program.entries, away))
        return sorted(found)

    def lost_with(self, away):
        """The parts that are lost with these, in order."""
        rest = self.come_to(away)
        return [number for number in self.whole if number not in rest]


def closest_of_all(program):
    """A dict from each part come to by all branches to the closest one it hangs on, or None."""
    reach = Reach(program, BY_BRANCHES)
    hangers = {}
    for number in reach.whole:
        hangers[number] = reach.lost_with([number])
    closest = {}
    for number in reach.whole:
        holders = [other for other in reach.whole if other != number and number in hangers[other]]
        closest[number] = closest_among(holders, hangers)
    return closest


def closest_among(holders, hangers):
    """The one of these that hangs on all of them, or None."""
    for holder in holders:
        if all([holder in hangers[other] for other in holders]):
            return holder
    return None
