"""The one form of a program."""

from whykept.program import Call, Make, Say


def one_form(program):
    """The bytes of the one form."""
    rows = [setting_row(setting) for setting in program.settings]
    rows.extend([part_row(part) for part in program.parts])
    entries = [program.parts[number].name for number in program.entries]
    rows.append("start " + ", ".join(entries) + " ;")
    return [ord(sign) for sign in "".join([row + "\n" for row in rows])]


def setting_row(setting):
    """The line of a setting, without its end."""
    return "set " + setting.name + " : " + ", ".join(setting.words) + " ;"


def part_row(part):
    """The line of a part, without its end."""
    return "part " + part.name + " size " + str(part.size) + " " + bracketed(part.body)


def bracketed(body):
    """Statements in their brackets."""
    return " ".join(["{"] + [statement_form(statement) for statement in body] + ["}"])


def statement_form(statement):
    """One statement."""
    if isinstance(statement, Say):
        return "say " + str(statement.amount) + " ;"
    if isinstance(statement, Call):
        return "call " + statement.name + " ;"
    if isinstance(statement, Make):
        return "make " + " + ".join(statement.pieces) + " ;"
    return "when " + statement.setting + " is " + statement.word + " " + bracketed(statement.body)
