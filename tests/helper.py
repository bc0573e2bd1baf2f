"""What the tests share: calls as lists of numbers, programs to try, and a slow model of them.

The model is written apart from the program, over whole programs told as tuples:
(settings, parts, entries) with settings (name, words), parts (name, size, body) and entries
by name. A statement is ("say", K), ("call", M), ("make", pieces) or ("when", X, V, body).
"""

import itertools
import random

from whykept.parts import answers

WORKED = (
    "set os : lin, win ; part main size 2 { call io ; make draw + os ; when os is win { call fix ; } say 1 ; } "
    "part io size 5 { say 2 ; } part drawlin size 7 { call io ; call font ; } "
    "part drawwin size 8 { call font ; say 3 ; } part fix size 4 { call deep ; } "
    "part deep size 6 { call io ; } part font size 3 { } part old size 9 { call fix ; } start main ;"
)
FAR = 10 ** 18


def load(text):
    """The call load of a text, or of a list of bytes."""
    data = list(text.encode("ascii")) if isinstance(text, str) else list(text)
    return [0, len(data)] + data


def shown():
    return [1]


def chain(mode, part):
    return [2, mode, part]


def lost(mode, part):
    return [3, mode, part]


def tree():
    return [4]


def shares(mode):
    return [5, mode]


def around(part, goal):
    return [6, part, goal]


def both(mode, one, other):
    return [7, mode, one, other]


def heavy(mode):
    return [8, mode]


def told(*calls):
    """What each of the calls answers, on one new object; at most 20 of them."""
    assert len(calls) <= 20
    return split(answers([number for call in calls for number in call]))


def split(numbers):
    """A list of counted answers as a list of lists."""
    found = []
    at = 0
    while at < len(numbers):
        end = at + 1 + numbers[at]
        found.append(numbers[at + 1:end])
        assert len(found[-1]) == numbers[at], "the last count is too large"
        at = end
    return found


def of(text, *calls):
    """What the calls answer on an object that holds the program of a text."""
    rest = list(calls)
    found = []
    while rest:
        first = told(load(text), *rest[:19])
        assert first[0][0] == 1, first[0]
        found.extend(first[1:])
        rest = rest[19:]
    return found


def come_to(text, mode, count):
    """The parts of so many that are come to by a mode: those that are lost with themselves."""
    each = of(text, *[lost(mode, part) for part in range(count)])
    return [part for part in range(count) if part in each[part][2:]]


# Programs told as tuples.


def form(program):
    """The one form of a program, as the document tells it."""
    settings, parts, entries = program
    rows = ["set %s : %s ;\n" % (name, ", ".join(words)) for name, words in settings]
    rows += ["part %s size %d %s\n" % (name, size, body_form(body)) for name, size, body in parts]
    return "".join(rows) + "start %s ;\n" % ", ".join(entries)


def body_form(body):
    return "{ %s}" % "".join(statement_form(statement) + " " for statement in body)


def statement_form(statement):
    if statement[0] == "make":
        return "make %s ;" % " + ".join(statement[1])
    if statement[0] == "when":
        return "when %s is %s %s" % (statement[1], statement[2], body_form(statement[3]))
    return "%s %s ;" % (statement[0], statement[1])


NAMES = ["a", "b", "ax", "ay", "bx", "xy", "c", "cx", "axy", "d"]
SETTINGS = [("s", ["x", "y"]), ("t", ["y", "x", "z"]), ("u", ["a", "b", "x", "c"])]


KINDS = [
    ["say", "call", "call", "make", "make", "when", "when"],
    ["say", "call", "make", "make", "when", "when", "when", "when"],
    ["call", "call", "call", "make"],
    ["when"],
    ["when"],
]


def programs(count, seed):
    """So many programs of all kinds, the same ones each time."""
    return [Maker(random.Random(seed * 10000 + number)).program() for number in range(count)]


class Maker:
    """Makes a program up; some have many whens, in some a part calls later ones only."""

    def __init__(self, dice):
        self.dice = dice
        self.kinds = dice.choice(KINDS)
        self.forward = dice.randint(0, 1) == 1
        self.longest = dice.choice([1, 2, 3, 4, 5]) if self.forward else dice.choice([1, 2, 2, 3])
        self.names = dice.sample(NAMES, dice.randint(1, 10))
        chosen = dice.sample(SETTINGS, dice.choice([0, 1, 1, 2, 2, 3]))
        self.settings = [(name, words[:dice.randint(1, len(words))]) for name, words in chosen]

    def program(self):
        parts = []
        for number, name in enumerate(self.names):
            callees = self.names[number + 1:] if self.forward else self.names
            parts.append((name, self.dice.randint(1, 99), self.body(callees, 0)))
        entries = self.names[:1] if self.forward else self.names
        count = min(len(entries), self.dice.choice([1, 1, 2, 2, 3, 4]))
        return self.settings, parts, self.dice.sample(entries, count)

    def body(self, callees, depth):
        return [self.statement(callees, depth) for number in range(self.dice.randint(0, self.longest))]

    def statement(self, callees, depth):
        kind = self.dice.choice(self.kinds)
        if depth > 0 and self.kinds == ["when"]:
            # All that such a part leads to stands in whens.
            kind = self.dice.choice(["call", "call", "make", "when"])
        if kind == "make":
            pool = [name for name, words in self.settings] * 2 + ["a", "b", "c", "x", "y"] + callees[:1]
            return ("make", [self.dice.choice(pool) for number in range(self.dice.randint(1, 3))])
        if kind == "when" and self.settings and depth < 3:
            setting, words = self.dice.choice(self.settings)
            return ("when", setting, self.dice.choice(words), self.body(callees, depth + 1))
        if kind == "call" and callees:
            return ("call", self.dice.choice(callees))
        return ("say", self.dice.randint(1, 99))


def webs(count, seed):
    """So many programs in which several ways lead to many parts, the same ones each time."""
    return [web(random.Random(seed * 10000 + number)) for number in range(count)]


def web(dice):
    """A program whose parts lead to later ones for the most part."""
    names = dice.sample(NAMES, dice.randint(5, 10))
    parts = []
    for number, name in enumerate(names):
        targets = names[number + 1:number + 5] * 4 + names
        body = [strand(dice, dice.choice(targets)) for statement in range(dice.randint(1, 3))]
        parts.append((name, dice.randint(1, 99), body))
    return [("s", ["x", "y"])], parts, names[:dice.randint(1, 2)]


def strand(dice, name):
    """A statement that leads to a part of this name, perhaps in one assignment alone."""
    statement = dice.choice([("call", name), ("make", [name]), ("make", [name])])
    return dice.choice([statement, statement, ("when", "s", dice.choice(["x", "y"]), [statement])])


# The model.


def worlds(program):
    """All assignments in order, each as a dict; the first setting's word changes fastest."""
    settings = program[0]
    rows = itertools.product(*[words for name, words in reversed(settings)])
    return [dict(zip([name for name, words in settings], reversed(row))) for row in rows]


def numbers(program):
    return {part[0]: number for number, part in enumerate(program[1])}


def entry_numbers(program):
    return [numbers(program)[name] for name in program[2]]


def made(pieces, world):
    return "".join(world[piece] if piece in world else piece for piece in pieces)


def meant(program, body, world, everywhere):
    """The parts that the statements of a body mean."""
    found = set()
    for statement in body:
        if statement[0] == "call":
            found.add(numbers(program)[statement[1]])
        if statement[0] == "make" and made(statement[1], world) in numbers(program):
            found.add(numbers(program)[made(statement[1], world)])
        if statement[0] == "when" and (everywhere or world[statement[1]] == statement[2]):
            found |= meant(program, statement[3], world, everywhere)
    return found


def tables(program, mode):
    """For each assignment (by mode 1: for all) the set of parts to which each part leads."""
    rows = [[meant(program, part[2], world, mode == 1) for part in program[1]] for world in worlds(program)]
    return rows if mode == 0 else [[set().union(*column) for column in zip(*rows)]]


def model_come_to(program, mode, away=()):
    """The set of parts that are come to by a mode with these left away."""
    found = set()
    if mode == 2:
        for world in worlds(program):
            for entry in entry_numbers(program):
                found |= model_run(program, entry, world, away)[0]
        return found
    for table in tables(program, mode):
        here = set(entry_numbers(program)) - set(away)
        while True:
            more = {target for part in here for target in table[part]} - set(away) - here
            if not more:
                break
            here |= more
        found |= here
    return found


def model_lost(program, mode, away):
    return model_come_to(program, mode) - model_come_to(program, mode, away)


class End(Exception):
    pass


def model_run(program, entry, world, away):
    """What a run enters, and how it ends."""
    entered = set()
    done = []

    def enter(part, others):
        entered.add(part)
        if others == 9:
            raise End(1)
        do(program[1][part][2], others + 1)

    def do(body, others):
        for statement in body:
            done.append(statement)
            if len(done) > 100:
                raise End(2)
            if statement[0] == "call":
                if numbers(program)[statement[1]] in away:
                    raise End(3)
                enter(numbers(program)[statement[1]], others)
            if statement[0] == "make":
                part = numbers(program).get(made(statement[1], world))
                if part is not None and part not in away:
                    enter(part, others)
            if statement[0] == "when" and world[statement[1]] == statement[2]:
                do(statement[3], others)

    try:
        if entry in away:
            raise End(3)
        enter(entry, 0)
    except End as end:
        return entered, end.args[0]
    return entered, 0


def model_ways(table, entries):
    """The first way to each part; the ways of each round are listed whole."""
    row = [[entry] for entry in entries]
    ways = {}
    while row:
        for way in row:
            ways.setdefault(way[-1], way)
        row = [way + [target] for way in row for target in sorted(table[way[-1]]) if target not in ways]
    return ways


def model_chain(program, mode, part):
    """All that chain answers."""
    best = [0]
    for number, table in enumerate(tables(program, mode)):
        way = model_ways(table, entry_numbers(program)).get(part)
        if way and (best == [0] or len(way) < best[2]):
            best = [1, number, len(way)] + way
    return best


def taken_out(program, part):
    """By all branches the table and the entries, if nothing led to a part and it were no entry."""
    table = [targets - {part} for targets in tables(program, 1)[0]]
    return table, [entry for entry in entry_numbers(program) if entry != part]


def model_around(program, part, goal):
    """All that around answers."""
    way = model_ways(*taken_out(program, part)).get(goal)
    return [1, len(way)] + way if way else [0]


def model_tree(program):
    """All that tree answers."""
    reached = sorted(model_come_to(program, 1))
    hangers = {part: model_lost(program, 1, [part]) for part in reached}
    answer = [len(reached)]
    for part in reached:
        others = {other for other in reached if other != part and part in hangers[other]}
        closest = [one for one in others if all(one in hangers[other] for other in others)]
        assert len(closest) <= 1
        answer += [part] + (closest or [-1])
    return answer


def size(program, parts):
    """How large parts are together."""
    return sum(program[1][number][1] for number in parts)


def model_lost_answer(program, mode, part):
    """All that lost answers."""
    gone = sorted(model_lost(program, mode, [part]))
    return [size(program, gone), len(gone)] + gone


def model_sizes(program, mode):
    """For each part how large what is lost with it is."""
    return [size(program, model_lost(program, mode, [part])) for part in range(len(program[1]))]


def model_shares(program, mode):
    """All that shares answers."""
    return [size(program, model_come_to(program, mode))] + model_sizes(program, mode)


def model_both(program, mode, one, other):
    """All that both answers."""
    gone = [model_lost(program, mode, away) for away in ([one, other], [one], [other])]
    only = sorted(gone[0] - gone[1] - gone[2])
    return [size(program, parts) for parts in gone] + [len(only)] + only


def model_heavy(program, mode):
    """All that heavy answers; the heaviest one of those that are left is looked for each time."""
    sizes = model_sizes(program, mode)
    left = sorted(model_come_to(program, mode))
    answer = [len(left)]
    while left:
        heaviest = left[0]
        for part in left:
            if sizes[part] > sizes[heaviest]:
                heaviest = part
        answer += [heaviest, sizes[heaviest]]
        left.remove(heaviest)
    return answer


def ways_exist(program, part, without):
    """Whether by all branches some way leads from an entry to a part, without another one."""
    return part in model_come_to(program, 1, [without])
