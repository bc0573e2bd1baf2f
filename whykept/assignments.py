"""What the settings choose, and the names that are made of it.

A choice tells an assignment: a dict from each setting's name to the word chosen.
"""


def choices_of(program):
    """The choices of all assignments, in the order of their numbers."""
    count = 1
    for setting in program.settings:
        count *= len(setting.words)
    return [choice_of(program, number) for number in range(count)]


def choice_of(program, number):
    """The choice of the assignment of this number."""
    choice = {}
    for setting in program.settings:
        choice[setting.name] = setting.words[number % len(setting.words)]
        number = number // len(setting.words)
    return choice


def made_name(make, choice):
    """The name that a make makes."""
    return "".join([choice.get(piece, piece) for piece in make.pieces])


def holds(when, choice):
    """Whether the statements of a when are done."""
    return choice[when.setting] == when.word
