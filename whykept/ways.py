"""What leads to what, and the shortest chains.

A table tells for each part the parts to which it leads, in order of numbers.
"""

from whykept.assignments import choices_of, holds, made_name
from whykept.program import Call, Make, When

BY_BRANCHES = 1


def tables_of(program, mode):
    """By conditions a table for each assignment, by all branches the one for all."""
    choices = choices_of(program)
    if mode == BY_BRANCHES:
        return [table_of(program, choices, True)]
    return [table_of(program, [choice], False) for choice in choices]


def table_of(program, choices, in_any_when):
    """The table of all that any of these choices leads to."""
    table = []
    for part in program.parts:
        told = {}
        for choice in choices:
            tell_names(part.body, choice, in_any_when, told)
        table.append([number for number, other in enumerate(program.parts) if other.name in told])
    return table


def tell_names(body, choice, in_any_when, told):
    """Puts all names that calls and makes mean into the dict told."""
    for statement in body:
        if isinstance(statement, Call):
            told[statement.name] = True
        elif isinstance(statement, Make):
            told[made_name(statement, choice)] = True
        elif isinstance(statement, When):
            if in_any_when or holds(statement, choice):
                tell_names(statement.body, choice, in_any_when, told)


def chains_by(table, entries, away):
    """A dict from each part that is come to with these left away to its shortest chain."""
    chains = {}
    for entry in entries:
        if entry not in away:
            chains[entry] = [entry]
    latest = list(chains)
    while latest:
        following = []
        for last in latest:
            for number in table[last]:
                if number not in chains and number not in away:
                    chains[number] = chains[last] + [number]
                    following.append(number)
        latest = following
    return chains
