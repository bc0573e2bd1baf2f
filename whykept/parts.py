"""The calls on an object that holds a program, or none."""

from whykept.assignments import choices_of
from whykept.faults import Fault
from whykept.reaching import EXACTLY, Reach, closest_of_all
from whykept.reading import read_program
from whykept.showing import one_form
from whykept.ways import BY_BRANCHES, BY_CONDITIONS, chains_by, tables_of

LOAD = 0
SHOWN = 1
CHAIN = 2
LOST = 3
# How many numbers stand behind a call's number, tree's being 4; load's text is read apart.
WIDTHS = (0, 0, 2, 2, 0)
# Refusals are told with a minus.
NO_PROGRAM = 1
NO_MODE = 2
NO_PART = 4


def answers(calls):
    """What the calls answer, one behind another on one new object, each with its count."""
    holder = Holder()
    told = []
    at = 0
    while at < len(calls):
        call = calls[at]
        if call == LOAD:
            begin = at + 2
            end = begin + calls[at + 1]
            answer = holder.load(calls[begin:end])
        else:
            begin = at + 1
            end = begin + WIDTHS[call]
            answer = holder.answer(call, calls[begin:end])
        told.append(len(answer))
        told.extend(answer)
        at = end
    return told


class Holder:
    """The object of the calls: it holds a program, or None."""

    def __init__(self):
        self.program = None

    def load(self, codes):
        """Holds the program that these bytes tell, if they tell one."""
        try:
            program = read_program(codes)
        except Fault as fault:
            return [0, fault.code, fault.place]
        self.program = program
        settings = len(program.settings)
        assignments = len(choices_of(program))
        return [1, settings, len(program.parts), len(program.entries), assignments]

    def answer(self, call, values):
        """What a call other than load answers, given the numbers behind it."""
        if self.program is None:
            return [-NO_PROGRAM]
        if call == SHOWN:
            return shown(self.program)
        if call == CHAIN:
            return chain(self.program, values[0], values[1])
        if call == LOST:
            return lost(self.program, values[0], values[1])
        # Of the calls that there are, tree alone is left.
        return tree(self.program)


def shown(program):
    """How many bytes the one form has, and they."""
    return counted(one_form(program))


def chain(program, mode, part):
    """The first assignment in which the chain to a part is shortest, and this chain."""
    if mode not in (BY_CONDITIONS, BY_BRANCHES):
        return [-NO_MODE]
    if not is_part(program, part):
        return [-NO_PART]
    answer = [0]
    shortest = len(program.parts) + 1
    for assignment, table in enumerate(tables_of(program, mode)):
        found = chains_by(table, program.entries, []).get(part)
        if found is not None and len(found) < shortest:
            shortest = len(found)
            answer = [1, assignment] + counted(found)
    return answer


def lost(program, mode, part):
    """How large all that is lost with a part is, and these parts."""
    if mode not in (BY_CONDITIONS, BY_BRANCHES, EXACTLY):
        return [-NO_MODE]
    if not is_part(program, part):
        return [-NO_PART]
    gone = Reach(program, mode).lost_with([part])
    return [program.size_of(gone)] + counted(gone)


def tree(program):
    """The parts come to by all branches, each with the closest one it hangs on, or -1."""
    closest = closest_of_all(program)
    answer = [len(closest)]
    for part, holder in closest.items():
        answer.extend([part, -1 if holder is None else holder])
    return answer


def is_part(program, number):
    """Whether there is a part of this number."""
    return 0 <= number < len(program.parts)


def counted(numbers):
    """The numbers behind their count."""
    return [len(numbers)] + numbers
