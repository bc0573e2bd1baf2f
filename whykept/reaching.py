"""What is come to, what is lost with parts, and what hangs on what."""

from whykept.runs import entered_by_runs
from whykept.ways import chains_by, tables_of

EXACTLY = 2


class Reach:
    """What is come to by one mode.

    What was found once is kept, since several calls ask for the same and runs are many.
    """

    def __init__(self, program, mode):
        self.program = program
        self.tables = None if mode == EXACTLY else tables_of(program, mode)
        self.known = {}

    def come_to(self, away):
        """The parts that are come to with these left away, in order."""
        key = tuple(sorted(set(away)))
        if key not in self.known:
            self.known[key] = sorted(self.search(key))
        return self.known[key]

    def search(self, away):
        """A dict of the parts that are come to with these left away, looked for anew."""
        if self.tables is None:
            return entered_by_runs(self.program, away)
        found = {}
        for table in self.tables:
            found.update(chains_by(table, self.program.entries, away))
        return found

    def lost_with(self, away):
        """The parts that are lost with these, in order."""
        rest = self.come_to(away)
        return [number for number in self.come_to([]) if number not in rest]

    def size_lost(self, away):
        """How large what is lost with these is, together."""
        return self.program.size_of(self.lost_with(away))


def closest_of_all(reach):
    """A dict from each part that is come to to the closest one it hangs on, or None."""
    whole = reach.come_to([])
    hangers = {}
    for number in whole:
        hangers[number] = reach.lost_with([number])
    closest = {}
    for number in whole:
        holders = [other for other in whole if other != number and number in hangers[other]]
        closest[number] = closest_among(holders, hangers)
    return closest


def closest_among(holders, hangers):
    """The one of these that hangs on all of them, or None."""
    for holder in holders:
        if all([holder in hangers[other] for other in holders]):
            return holder
    return None
