"""What the calls refuse, and in which order."""

import unittest

from tests.helper import FAR, WORKED, around, both, chain, heavy, load, lost, of, shares, shown, told, tree
from whykept.parts import answers

NO_MODES = [-1, 3, 4, 100, -2, FAR, -FAR]
NO_PARTS = [-1, 8, 9, -8, 100, FAR, -FAR]
# One of each call that is right of the worked text.
RIGHT = [shown(), tree(), chain(0, 5), lost(2, 1), shares(2), around(2, 6), both(1, 2, 3), heavy(0)]


class NoProgramTest(unittest.TestCase):
    def test_every_call_but_load(self):
        for call in RIGHT + [chain(0, 0), lost(0, 0), lost(1, 0), shares(0), shares(1), around(0, 0), both(0, 0, 0)]:
            self.assertEqual(answers(call), [1, -1])
        for mode in (0, 1, 2):
            self.assertEqual(told(heavy(mode), both(mode, 1, 0), shares(mode)), [[-1]] * 3)

    def test_before_all_else(self):
        for number in NO_MODES + [0, 1, 2]:
            self.assertEqual(told(shares(number), heavy(number)), [[-1]] * 2)
            for part in NO_PARTS + [0]:
                self.assertEqual(told(chain(number, part), lost(number, part), around(part, part)), [[-1]] * 3)
                calls = [both(number, part, 0), both(number, 0, part), around(0, part), around(part, 0)]
                self.assertEqual(told(*calls), [[-1]] * 4)

    def test_a_text_that_is_wrong_makes_no_program(self):
        found = told(load("part"), shown(), tree(), chain(0, 0), load(""), lost(0, 0), chain(7, 7))
        self.assertEqual(found, [[0, 3, 4], [-1], [-1], [-1], [0, 3, 0], [-1], [-1]])
        self.assertEqual(told(load("part"), *RIGHT), [[0, 3, 4]] + [[-1]] * len(RIGHT))

    def test_a_refusal_does_not_hinder_a_load(self):
        self.assertEqual(told(tree(), load("part a size 1 { } start a ;"), tree()), [[-1], [1, 0, 1, 1, 1], [1, 0, -1]])
        self.assertEqual(told(*RIGHT, load(WORKED), *RIGHT)[9:], of(WORKED, *RIGHT))


class NoModeTest(unittest.TestCase):
    def test_chain(self):
        for number in NO_MODES + [2]:
            self.assertEqual(of(WORKED, chain(number, 0)), [[-2]])

    def test_lost_shares_both_and_heavy(self):
        for number in NO_MODES:
            calls = [lost(number, 0), shares(number), both(number, 0, 1), heavy(number)]
            self.assertEqual(of(WORKED, *calls), [[-2]] * 4)

    def test_mode_2_is_one_of_all_but_chain(self):
        found = of(WORKED, lost(2, 2), chain(2, 2), shares(2), both(2, 2, 2), heavy(2))
        self.assertEqual(found[:2], [[7, 1, 2], [-2]])
        self.assertEqual([len(answer) for answer in found[2:]], [9, 4, 15])

    def test_before_no_part(self):
        for number in NO_MODES:
            for part in NO_PARTS:
                calls = [chain(number, part), lost(number, part), chain(2, part)]
                calls += [both(number, part, 0), both(number, 0, part), both(number, part, part)]
                self.assertEqual(of(WORKED, *calls), [[-2]] * 6)


class NoPartTest(unittest.TestCase):
    def test_chain_and_lost(self):
        for part in NO_PARTS:
            calls = [chain(0, part), chain(1, part), lost(0, part), lost(1, part), lost(2, part)]
            self.assertEqual(of(WORKED, *calls), [[-4]] * 5)

    def test_around_the_one_the_other_and_both(self):
        for part in NO_PARTS:
            self.assertEqual(of(WORKED, around(part, 0), around(0, part), around(part, part)), [[-4]] * 3)
            for other in NO_PARTS:
                self.assertEqual(of(WORKED, around(part, other)), [[-4]])

    def test_both_the_one_the_other_and_both(self):
        for mode in (0, 1, 2):
            for part in NO_PARTS:
                calls = [both(mode, part, 0), both(mode, 0, part), both(mode, part, 7), both(mode, 7, part)]
                self.assertEqual(of(WORKED, *calls), [[-4]] * 4)
                self.assertEqual(of(WORKED, *[both(mode, part, other) for other in NO_PARTS]), [[-4]] * len(NO_PARTS))

    def test_the_last_part_is_one_and_the_next_one_is_none(self):
        for count in (1, 2, 10):
            parts = ["part n%d size 1 { }" % number for number in range(count)]
            text = " ".join(parts) + " start n%d ;" % (count - 1)
            calls = [chain(1, count - 1), chain(1, count), lost(2, count - 1), lost(2, count), chain(0, -1), lost(0, -1)]
            wanted = [[1, 0, 1, count - 1], [-4], [1, 1, count - 1], [-4], [-4], [-4]]
            self.assertEqual(of(text, *calls), wanted)
            calls = [around(count - 1, count - 1), around(count, count - 1), around(count - 1, count), around(-1, 0)]
            self.assertEqual(of(text, *calls, around(0, -1)), [[0], [-4], [-4], [-4], [-4]])
            for mode in (0, 1, 2):
                calls = [both(mode, count - 1, count - 1), both(mode, count, count - 1), both(mode, count - 1, count)]
                found = of(text, *calls, both(mode, -1, 0), both(mode, 0, -1))
                self.assertEqual(found, [[1, 1, 1, 0], [-4], [-4], [-4], [-4]])


class ObjectTest(unittest.TestCase):
    def test_refusals_leave_the_object(self):
        wanted = of(WORKED, *RIGHT)
        refused = [
            chain(2, 0), chain(FAR, -FAR), lost(3, 0), lost(0, 8), chain(0, -1), lost(-FAR, FAR), shares(3), shares(-FAR),
            around(8, 0), around(0, FAR), both(3, 8, 8), both(2, 8, 0), both(0, 0, -1), heavy(-1), heavy(FAR),
        ]
        codes = [-2, -2, -2, -4, -4, -2, -2, -2, -4, -4, -2, -4, -4, -2, -2]
        for half in (0, 4):
            calls = RIGHT[half:half + 4]
            found = told(load(WORKED), *refused, *calls)
            self.assertEqual(found[1:16], [[code] for code in codes])
            self.assertEqual(found[16:], wanted[half:half + 4])
        for call, code in zip(refused, codes):
            found = told(load(WORKED), *RIGHT, call, *RIGHT)
            self.assertEqual(found[1:], wanted + [[code]] + wanted)


if __name__ == "__main__":
    unittest.main()
