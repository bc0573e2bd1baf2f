"""Programs of the greatest size, and lists with as many calls as there may be."""

import time
import unittest

from tests.helper import around, both, chain, form, heavy, load, lost, model_around, model_both, model_heavy
from tests.helper import model_shares, shares, shown, told, tree
from whykept.parts import answers

WORDS = ["a", "b", "c", "d"]
SETTINGS = [("s", WORDS), ("t", WORDS), ("u", WORDS)]
NAMES = ["aaa", "bcd", "abca", "dd", "ddd", "cab", "n6", "n7", "n8", "n9"]
# Much more than any of the lists takes, so that only what grows beyond measure is told.
SECONDS = 10


def greatest(body):
    """A program with ten parts, four entries and 64 assignments; body tells each part's statements by its number."""
    parts = [(name, 99 - number, body(number)) for number, name in enumerate(NAMES)]
    return SETTINGS, parts, NAMES[:4]


def following(number, step):
    return NAMES[(number + step) % 10]


def makes(number):
    """Makes of all names that settings can make, one behind another."""
    return [("make", ["s", "t", "u"])] * 9 + [("make", [following(number, 1)])] * 2


def whens(number):
    """Whens within one another, with calls to the next parts."""
    inner = [("when", "u", "c", [("call", following(number, 1)), ("make", ["s", "t"])])]
    middle = [("when", "t", "b", inner), ("call", following(number, 3)), ("say", 1)]
    return [("when", "s", "a", middle), ("when", "s", "b", [("make", ["s", "t", "u"])]), ("make", [following(number, 2)])]


def doubled(number):
    """Two ways to each of the next two parts, so that the runs are as long as they may be."""
    if number >= 8:
        return [("say", 1)] * 9
    return [("make", [following(number, 1)]), ("make", [following(number, 2)])] * 2


def says(number):
    """Statements that lead nowhere, with a way on behind them."""
    return [("say", 7)] * 20 + [("call", following(number, 1))]


PROGRAMS = [greatest(body) for body in (makes, whens, doubled, says)]


def filled(program):
    """The text of a program, with a remark up to 4096 bytes."""
    text = form(program)
    return text + "#" * (4096 - len(text))


class GreatestTest(unittest.TestCase):
    def timed(self, calls):
        begin = time.monotonic()
        found = told(*calls)
        self.assertLess(time.monotonic() - begin, SECONDS)
        return found

    def test_the_texts_are_of_the_greatest_size(self):
        for program in PROGRAMS:
            self.assertEqual(len(filled(program)), 4096)
            self.assertEqual(told(load(filled(program))), [[1, 3, 10, 4, 64]])

    def test_as_the_model(self):
        for number, program in enumerate(PROGRAMS):
            found = self.timed([load(filled(program))] + [shares(2), heavy(2), both(2, 0, 9), shares(0), heavy(0), around(0, 9)])
            self.assertEqual(found[1], model_shares(program, 2), number)
            self.assertEqual(found[2], model_heavy(program, 2), number)
            self.assertEqual(found[3], model_both(program, 2, 0, 9), number)
            self.assertEqual(found[4], model_shares(program, 0), number)
            self.assertEqual(found[5], model_heavy(program, 0), number)
            self.assertEqual(found[6], model_around(program, 0, 9), number)

    def test_the_same_call_twenty_times(self):
        for program in PROGRAMS:
            for call in [heavy(2), shares(2), both(2, 4, 5), lost(2, 3), heavy(0), both(0, 4, 5), tree(), around(1, 9), shown()]:
                found = self.timed([load(filled(program))] + [call] * 19)
                self.assertEqual(found[1:], [found[1]] * 19)

    def test_unlike_calls(self):
        for program in PROGRAMS:
            text = filled(program)
            pairs = [(one, other) for one in range(10) for other in range(one)]
            for mode in (0, 1, 2):
                self.timed([load(text)] + [both(mode, *pair) for pair in pairs[:19]])
                self.timed([load(text)] + [both(mode, *pair) for pair in pairs[-19:]])
            mixed = [shares(0), shares(1), shares(2), heavy(0), heavy(1), heavy(2), tree(), shown(), chain(0, 9), chain(1, 9)]
            self.timed([load(text)] + mixed + [lost(mode, part) for mode in (0, 1, 2) for part in (4, 5, 6)])

    def test_a_load_ahead_of_each_call(self):
        # A list holds 17000 numbers: four texts of the greatest size, or more shorter ones.
        for program in PROGRAMS:
            calls = [call for mode in (2, 0, 1, 2) for call in (load(filled(program)), heavy(mode))]
            self.assertLessEqual(sum(len(call) for call in calls), 17000)
            found = self.timed(calls)
            self.assertEqual(found[1], found[7])
            text = form(program)
            count = min(10, 17000 // (len(text) + 4))
            found = self.timed([load(text), heavy(2)] * count)
            self.assertEqual(found, found[:2] * count)

    def test_no_more_than_the_greatest_text_is_gone_through(self):
        calls = (load("#" * 8192) + heavy(2)) * 2
        self.assertEqual(answers(calls), [3, 0, 1, 4096, 1, -1] * 2)


if __name__ == "__main__":
    unittest.main()
