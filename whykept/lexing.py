"""From bytes to tokens."""

from whykept.faults import NO_TOKEN, TOO_LONG, Fault

LONGEST_TEXT = 4096
LONGEST_NAME = 16
GREATEST_NUMBER = 1000000000
MOST_DIGITS = 10
BLANKS = " \t\n"
REMARK = "#"
SIGNS = "+,:;{}"
DIGITS = "0123456789"
LETTERS = "ABCDEFGHIJKLMNOPQRSTUVWXYZabcdefghijklmnopqrstuvwxyz"
RESERVED = ("set", "part", "size", "start", "say", "call", "make", "when", "is")
NAME = "name"
NUMBER = "number"
END = "end"


class Token:
    """A token: its kind, its text, and the place of its first byte.

    A sign and a reserved word are of a kind that is called as they are.
    """

    def __init__(self, kind, text, place):
        self.kind = kind
        self.text = text
        self.place = place


def tokens_of(codes):
    """All tokens of a list of bytes, with the text's end as the last one."""
    if len(codes) > LONGEST_TEXT:
        raise Fault(TOO_LONG, LONGEST_TEXT)
    text = as_text(codes)
    tokens = []
    at = behind_blanks(text, 0)
    while at < len(text):
        token = token_at(text, at)
        tokens.append(token)
        at = behind_blanks(text, at + len(token.text))
    tokens.append(Token(END, "", len(text)))
    return tokens


def as_text(codes):
    """The bytes as a text of as many signs, with ? for all that mean nothing."""
    sign_of = {}
    for sign in BLANKS + REMARK + SIGNS + DIGITS + LETTERS:
        sign_of[ord(sign)] = sign
    return "".join([sign_of.get(code, "?") for code in codes])


def behind_blanks(text, at):
    """The first place from at on that lies in no blank and in no remark."""
    while at < len(text) and text[at] in BLANKS + REMARK:
        if text[at] == REMARK:
            at = remark_end(text, at)
        else:
            at += 1
    return at


def remark_end(text, at):
    """The place where the remark that begins at a place has its end."""
    end = text.find("\n", at)
    return len(text) if end < 0 else end


def token_at(text, at):
    """The token that begins at a place where one has to begin."""
    sign = text[at]
    if sign in SIGNS:
        return Token(sign, sign, at)
    if sign in DIGITS:
        return number_at(text, at)
    if sign in LETTERS:
        return name_at(text, at)
    raise Fault(NO_TOKEN, at)


def number_at(text, at):
    """The number that begins at a place."""
    digits = text[at:run_end(text, at, DIGITS)]
    if digits[0] == "0" and len(digits) > 1:
        raise Fault(NO_TOKEN, at)
    # The digits are counted first, so that no text of thousands of them is made a number.
    if len(digits) > MOST_DIGITS or int(digits) > GREATEST_NUMBER:
        raise Fault(NO_TOKEN, at)
    return Token(NUMBER, digits, at)


def name_at(text, at):
    """The name, or the reserved word, that begins at a place."""
    word = text[at:run_end(text, at, LETTERS + DIGITS)]
    if len(word) > LONGEST_NAME:
        raise Fault(NO_TOKEN, at)
    return Token(word if word in RESERVED else NAME, word, at)


def run_end(text, at, allowed):
    """The first place from at on that holds none of the allowed signs."""
    while at < len(text) and text[at] in allowed:
        at += 1
    return at
