"""Runs, and what is entered in them."""

from whykept.assignments import choices_of, holds, made_name
from whykept.program import Call, Make, When

MOST_WITHIN = 9
MOST_DONE = 100
WELL = 0
TOO_DEEP = 1
TOO_LONG = 2
MISSING = 3


def entered_by_runs(program, away):
    """A dict of all parts that some run enters with these parts left out."""
    entered = {}
    for choice in choices_of(program):
        for entry in program.entries:
            Run(program, choice, away, entered).call_part(entry)
    return entered


class Run:
    """A run: what it enters is put into the dict entered; ending is how it ends.

    What is said is not kept, since no call asks for it.
    """

    def __init__(self, program, choice, away, entered):
        self.program = program
        self.choice = choice
        self.away = away
        self.entered = entered
        self.within = 0
        self.done = 0
        self.ending = WELL

    def call_part(self, number):
        """Enters a part that has to be there."""
        # A part that is left out is missing at any depth, so this comes before the depth.
        if number in self.away:
            self.ending = MISSING
        else:
            self.enter(number)

    def enter(self, number):
        """Enters a part, does its statements and leaves it."""
        self.entered[number] = True
        if self.within == MOST_WITHIN:
            self.ending = TOO_DEEP
            return
        self.within += 1
        self.do_all(self.program.parts[number].body)
        self.within -= 1

    def do_all(self, body):
        """Does statements in order, until the run ends."""
        for statement in body:
            if self.ending == WELL and self.done == MOST_DONE:
                self.ending = TOO_LONG
            if self.ending != WELL:
                return
            self.done += 1
            self.do_one(statement)

    def do_one(self, statement):
        """Does a statement."""
        if isinstance(statement, Call):
            self.call_part(self.program.numbers[statement.name])
        elif isinstance(statement, Make):
            self.make_part(statement)
        elif isinstance(statement, When) and holds(statement, self.choice):
            self.do_all(statement.body)

    def make_part(self, make):
        """Enters the part that a make means, if there is one and it is not left out."""
        number = self.program.numbers.get(made_name(make, self.choice))
        if number is not None and number not in self.away:
            self.enter(number)
