"""What a program is made of."""


class Say:
    """A statement that says a number."""

    def __init__(self, amount):
        self.amount = amount


class Call:
    """A statement that enters the part of a name."""

    def __init__(self, name):
        self.name = name


class Make:
    """A statement that makes a name of pieces and enters what it means."""

    def __init__(self, pieces):
        self.pieces = pieces


class When:
    """A statement whose own statements are done if a setting has a word."""

    def __init__(self, setting, word, body):
        self.setting = setting
        self.word = word
        self.body = body


class Setting:
    """A setting: its name and its words."""

    def __init__(self, name, words):
        self.name = name
        self.words = words


class Part:
    """A part: its name, its size and its statements."""

    def __init__(self, name, size, body):
        self.name = name
        self.size = size
        self.body = body


class Program:
    """A program that is right; the entries are numbers of parts."""

    def __init__(self, settings, parts, entries):
        self.settings = settings
        self.parts = parts
        self.entries = entries
        self.numbers = {}
        for number, part in enumerate(parts):
            self.numbers[part.name] = number

    def size_of(self, numbers):
        """How large the parts of these numbers are together."""
        return sum([self.parts[number].size for number in numbers])
