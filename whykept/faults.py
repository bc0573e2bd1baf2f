"""What can be wrong with a text that is loaded."""

TOO_LONG = 1
NO_TOKEN = 2
NOT_ALLOWED = 3
TOO_MANY = 4
TOLD_BEFORE = 5
ENTRY_TOLD_BEFORE = 6
OUT_OF_RANGE = 7
UNKNOWN_NAME = 8
UNKNOWN_CALL = 9


class Fault(Exception):
    """A fault of a text: its code, and the place where it is."""

    def __init__(self, code, place):
        Exception.__init__(self, code, place)
        self.code = code
        self.place = place
