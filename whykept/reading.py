"""From tokens to a program."""

from whykept.faults import ENTRY_TOLD_BEFORE, NOT_ALLOWED, OUT_OF_RANGE, TOLD_BEFORE, TOO_MANY
from whykept.faults import UNKNOWN_CALL, UNKNOWN_NAME, Fault
from whykept.lexing import END, NAME, NUMBER, tokens_of
from whykept.program import Call, Make, Part, Program, Say, Setting, When

MOST_SETTINGS = 3
MOST_WORDS = 4
MOST_PARTS = 10
MOST_ENTRIES = 4
MOST_PIECES = 3
DEEPEST_WHEN = 3
GREATEST_AMOUNT = 99


def read_program(codes):
    """The program that a list of bytes tells; raises the text's Fault if it tells none."""
    return Reader(tokens_of(codes)).read()


class Reader:
    """Goes through the tokens from left to right, so that the leftmost fault is raised.

    At each token the checks stand in the order of their codes: the least one is told.
    """

    def __init__(self, tokens):
        self.tokens = tokens
        self.at = 0
        self.settings = {}
        self.parts = {}
        self.entries = []
        self.callees = []

    def read(self):
        """The whole program, to the text's end."""
        while self.ahead().kind == "set":
            self.read_setting()
        self.read_part()
        while self.ahead().kind == "part":
            self.read_part()
        self.read_start()
        self.take(END)
        self.check_callees()
        parts = list(self.parts.values())
        names = [part.name for part in parts]
        entries = [names.index(entry) for entry in self.entries]
        return Program(list(self.settings.values()), parts, entries)

    def ahead(self):
        """The token that is to be taken next."""
        return self.tokens[self.at]

    def take(self, kind):
        """Takes the next token, which has to be of this kind."""
        token = self.ahead()
        if token.kind != kind:
            raise Fault(NOT_ALLOWED, token.place)
        self.at += 1
        return token

    def take_if(self, kind):
        """Takes the next token if it is of this kind, and tells whether it was."""
        if self.ahead().kind != kind:
            return False
        self.at += 1
        return True

    def read_setting(self):
        """A setting, which is kept."""
        opening = self.take("set")
        check_room(opening, self.settings, MOST_SETTINGS)
        name = self.take(NAME)
        if name.text in self.settings:
            raise Fault(TOLD_BEFORE, name.place)
        self.take(":")
        words = []
        self.read_word(words)
        while self.take_if(","):
            self.read_word(words)
        self.take(";")
        self.settings[name.text] = Setting(name.text, words)

    def read_word(self, words):
        """One more word of a setting that has these words."""
        word = self.take(NAME)
        check_room(word, words, MOST_WORDS)
        if word.text in words:
            raise Fault(TOLD_BEFORE, word.place)
        words.append(word.text)

    def read_part(self):
        """A part, which is kept."""
        opening = self.take("part")
        check_room(opening, self.parts, MOST_PARTS)
        name = self.take(NAME)
        if name.text in self.settings or name.text in self.parts:
            raise Fault(TOLD_BEFORE, name.place)
        self.take("size")
        size = self.read_amount()
        self.parts[name.text] = Part(name.text, size, self.read_body(0))

    def read_amount(self):
        """A size, or what is said."""
        number = self.take(NUMBER)
        amount = int(number.text)
        if not 1 <= amount <= GREATEST_AMOUNT:
            raise Fault(OUT_OF_RANGE, number.place)
        return amount

    def read_body(self, depth):
        """Statements in brackets, which stand in so many whens."""
        self.take("{")
        body = []
        while not self.take_if("}"):
            body.append(self.read_statement(depth))
        return body

    def read_statement(self, depth):
        """A statement that stands in so many whens."""
        kind = self.ahead().kind
        if kind == "say":
            return self.read_say()
        if kind == "call":
            return self.read_call()
        if kind == "make":
            return self.read_make()
        if kind == "when":
            return self.read_when(depth)
        raise Fault(NOT_ALLOWED, self.ahead().place)

    def read_say(self):
        """A say."""
        self.take("say")
        amount = self.read_amount()
        self.take(";")
        return Say(amount)

    def read_call(self):
        """A call; its name is looked at in the end, since the part may be told later."""
        self.take("call")
        name = self.take(NAME)
        self.callees.append(name)
        self.take(";")
        return Call(name.text)

    def read_make(self):
        """A make."""
        self.take("make")
        pieces = []
        self.read_piece(pieces)
        while self.take_if("+"):
            self.read_piece(pieces)
        self.take(";")
        return Make(pieces)

    def read_piece(self, pieces):
        """One more piece of a make that has these pieces."""
        piece = self.take(NAME)
        check_room(piece, pieces, MOST_PIECES)
        pieces.append(piece.text)

    def read_when(self, depth):
        """A when that stands in so many others."""
        opening = self.take("when")
        if depth == DEEPEST_WHEN:
            raise Fault(TOO_MANY, opening.place)
        setting = self.take(NAME)
        check_known(setting, self.settings)
        self.take("is")
        word = self.take(NAME)
        check_known(word, self.settings[setting.text].words)
        return When(setting.text, word.text, self.read_body(depth + 1))

    def read_start(self):
        """The entries, which are kept."""
        self.take("start")
        self.read_entry()
        while self.take_if(","):
            self.read_entry()
        self.take(";")

    def read_entry(self):
        """One more entry."""
        entry = self.take(NAME)
        check_room(entry, self.entries, MOST_ENTRIES)
        if entry.text in self.entries:
            raise Fault(ENTRY_TOLD_BEFORE, entry.place)
        check_known(entry, self.parts)
        self.entries.append(entry.text)

    def check_callees(self):
        """Raises the fault of the first name behind call that is no part's."""
        for name in self.callees:
            if name.text not in self.parts:
                raise Fault(UNKNOWN_CALL, name.place)


def check_room(token, earlier, most):
    """Raises a fault at the token if there are as many earlier ones as there may be."""
    if len(earlier) == most:
        raise Fault(TOO_MANY, token.place)


def check_known(token, known):
    """Raises a fault at the token if its name is none of the known ones."""
    if token.text not in known:
        raise Fault(UNKNOWN_NAME, token.place)
