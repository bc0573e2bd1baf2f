"""What the calls refuse, and in which order."""

import unittest

from tests.helper import FAR, WORKED, chain, load, lost, of, shown, told, tree
from whykept.parts import answers

NO_MODES = [-1, 3, 4, 100, -2, FAR, -FAR]
NO_PARTS = [-1, 8, 9, -8, 100, FAR, -FAR]


class NoProgramTest(unittest.TestCase):
    def test_every_call_but_load(self):
        for call in [shown(), tree(), chain(0, 0), chain(1, 5), lost(0, 0), lost(1, 0), lost(2, 0)]:
            self.assertEqual(answers(call), [1, -1])

    def test_before_all_else(self):
        for number in NO_MODES + [0, 1, 2]:
            for part in NO_PARTS + [0]:
                self.assertEqual(told(chain(number, part), lost(number, part)), [[-1], [-1]])

    def test_a_text_that_is_wrong_makes_no_program(self):
        found = told(load("part"), shown(), tree(), chain(0, 0), load(""), lost(0, 0), chain(7, 7))
        self.assertEqual(found, [[0, 3, 4], [-1], [-1], [-1], [0, 3, 0], [-1], [-1]])

    def test_a_refusal_does_not_hinder_a_load(self):
        self.assertEqual(told(tree(), load("part a size 1 { } start a ;"), tree()), [[-1], [1, 0, 1, 1, 1], [1, 0, -1]])


class NoModeTest(unittest.TestCase):
    def test_chain(self):
        for number in NO_MODES + [2]:
            self.assertEqual(of(WORKED, chain(number, 0)), [[-2]])

    def test_lost(self):
        for number in NO_MODES:
            self.assertEqual(of(WORKED, lost(number, 0)), [[-2]])

    def test_mode_2_is_one_of_lost_alone(self):
        self.assertEqual(of(WORKED, lost(2, 2), chain(2, 2)), [[7, 1, 2], [-2]])

    def test_before_no_part(self):
        for number in NO_MODES:
            for part in NO_PARTS:
                self.assertEqual(of(WORKED, chain(number, part), lost(number, part), chain(2, part)), [[-2]] * 3)


class NoPartTest(unittest.TestCase):
    def test_chain_and_lost(self):
        for part in NO_PARTS:
            calls = [chain(0, part), chain(1, part), lost(0, part), lost(1, part), lost(2, part)]
            self.assertEqual(of(WORKED, *calls), [[-4]] * 5)

    def test_the_last_part_is_one_and_the_next_one_is_none(self):
        for count in (1, 2, 10):
            parts = ["part n%d size 1 { }" % number for number in range(count)]
            text = " ".join(parts) + " start n%d ;" % (count - 1)
            calls = [chain(1, count - 1), chain(1, count), lost(2, count - 1), lost(2, count), chain(0, -1), lost(0, -1)]
            wanted = [[1, 0, 1, count - 1], [-4], [1, 1, count - 1], [-4], [-4], [-4]]
            self.assertEqual(of(text, *calls), wanted)


class ObjectTest(unittest.TestCase):
    def test_refusals_leave_the_object(self):
        calls = [shown(), tree(), chain(0, 5), lost(2, 1)]
        wanted = of(WORKED, *calls)
        refused = [chain(2, 0), chain(FAR, -FAR), lost(3, 0), lost(0, 8), chain(0, -1), lost(-FAR, FAR)]
        found = of(WORKED, *calls, *refused, *calls)
        self.assertEqual(found[:4], wanted)
        self.assertEqual(found[4:10], [[-2], [-2], [-2], [-4], [-4], [-2]])
        self.assertEqual(found[10:], wanted)


if __name__ == "__main__":
    unittest.main()
