"""What each call answers of a program that is held, once nothing is refused."""

from whykept.reaching import closest_of_all
from whykept.showing import one_form
from whykept.ways import chains_by


def shown(program):
    """How many bytes the one form has, and they."""
    return counted(one_form(program))


def chain(reach, part):
    """The first assignment in which the chain to a part is shortest, and this chain."""
    answer = [0]
    shortest = len(reach.program.parts) + 1
    for assignment, table in enumerate(reach.tables):
        found = chains_by(table, reach.program.entries, []).get(part)
        if found is not None and len(found) < shortest:
            shortest = len(found)
            answer = [1, assignment] + counted(found)
    return answer


def lost(reach, part):
    """How large all that is lost with a part is, and these parts."""
    return [reach.size_lost([part])] + counted(reach.lost_with([part]))


def tree(reach):
    """The parts that are come to, each with the closest one it hangs on, or -1."""
    closest = closest_of_all(reach)
    answer = [len(closest)]
    for part, holder in closest.items():
        answer.extend([part, -1 if holder is None else holder])
    return answer


def shares(reach):
    """How large all that is come to is, and what is lost with each part."""
    program = reach.program
    each = [reach.size_lost([part]) for part in range(len(program.parts))]
    return [program.size_of(reach.come_to([]))] + each


def around(reach, part, goal):
    """The shortest chain by all branches to the goal that goes without a part."""
    # By all branches there is one table, that for all assignments.
    found = chains_by(reach.tables[0], reach.program.entries, [part]).get(goal)
    return [0] if found is None else [1] + counted(found)


def both(reach, one, other):
    """How large what is lost with two parts, with the one and with the other is, and what only both lose."""
    alone = reach.lost_with([one]) + reach.lost_with([other])
    only = [number for number in reach.lost_with([one, other]) if number not in alone]
    sizes = [reach.size_lost(away) for away in ([one, other], [one], [other])]
    return sizes + counted(only)


def heavy(reach):
    """The parts that are come to, the heaviest to lose first, each with how large its loss is."""
    ranked = sorted(reach.come_to([]), key=lambda part: (-reach.size_lost([part]), part))
    answer = [len(ranked)]
    for part in ranked:
        answer.extend([part, reach.size_lost([part])])
    return answer


def counted(numbers):
    """The numbers behind their count."""
    return [len(numbers)] + numbers
