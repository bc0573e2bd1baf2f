"""The calls on an object that holds a program, or none."""

from whykept.assignments import choices_of
from whykept.faults import Fault
from whykept.reaching import Reach
from whykept.reading import read_program
from whykept.telling import around, both, chain, heavy, lost, shares, shown, tree
from whykept.ways import BY_BRANCHES

LOAD = 0
SHOWN = 1
CHAIN = 2
LOST = 3
TREE = 4
SHARES = 5
AROUND = 6
BOTH = 7
# By a call's number, heavy's being 8: how many modes it has, and how many parts stand behind the mode.
MODES = (0, 0, 2, 3, 0, 3, 0, 3, 3)
PARTS = (0, 0, 1, 1, 0, 0, 2, 2, 0)
# Refusals are told with a minus.
NO_PROGRAM = 1
NO_MODE = 2
NO_PART = 4


def answers(calls):
    """What the calls answer, one behind another on one new object, each with its count."""
    holder = Holder()
    told = []
    at = 0
    while at < len(calls):
        call = calls[at]
        if call == LOAD:
            begin = at + 2
            end = begin + calls[at + 1]
            answer = holder.load(calls[begin:end])
        else:
            begin = at + 1
            end = begin + width_of(call)
            answer = holder.answer(call, calls[begin:end])
        told.append(len(answer))
        told.extend(answer)
        at = end
    return told


def width_of(call):
    """How many numbers stand behind the number of a call other than load."""
    return min(MODES[call], 1) + PARTS[call]


class Holder:
    """The object of the calls: it holds a program, or None, and what is found of it by each mode."""

    def __init__(self):
        self.program = None
        self.reaches = {}

    def load(self, codes):
        """Holds the program that these bytes tell, if they tell one."""
        try:
            program = read_program(codes)
        except Fault as fault:
            return [0, fault.code, fault.place]
        self.program = program
        self.reaches = {}
        settings = len(program.settings)
        assignments = len(choices_of(program))
        return [1, settings, len(program.parts), len(program.entries), assignments]

    def answer(self, call, values):
        """What a call other than load answers, given the numbers behind it."""
        if self.program is None:
            return [-NO_PROGRAM]
        if not has_mode(call, values):
            return [-NO_MODE]
        if not has_parts(call, values, self.program):
            return [-NO_PART]
        return self.tell(call, values)

    def tell(self, call, values):
        """What a call that is not refused answers."""
        if call == SHOWN:
            return shown(self.program)
        if call == TREE:
            return tree(self.reach(BY_BRANCHES))
        if call == AROUND:
            return around(self.reach(BY_BRANCHES), values[0], values[1])
        reach = self.reach(values[0])
        if call == CHAIN:
            return chain(reach, values[1])
        if call == LOST:
            return lost(reach, values[1])
        if call == SHARES:
            return shares(reach)
        if call == BOTH:
            return both(reach, values[1], values[2])
        # Of the calls that there are, heavy alone is left.
        return heavy(reach)

    def reach(self, mode):
        """What is come to in the program by a mode."""
        if mode not in self.reaches:
            self.reaches[mode] = Reach(self.program, mode)
        return self.reaches[mode]


def has_mode(call, values):
    """Whether the mode that stands behind a call is one of its modes, or it has none."""
    return MODES[call] == 0 or 0 <= values[0] < MODES[call]


def has_parts(call, values, program):
    """Whether there are all the parts whose numbers stand behind a call."""
    numbers = values[len(values) - PARTS[call]:]
    return all([0 <= number < len(program.parts) for number in numbers])
