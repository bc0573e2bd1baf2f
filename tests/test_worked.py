"""The worked text of the document, and lists of several calls."""

import unittest

from tests.helper import WORKED, around, both, chain, heavy, load, lost, of, shares, shown, split, told, tree
from whykept.parts import answers

ANSWERS = [
    (chain(0, 6), [1, 0, 3, 0, 2, 6]),
    (chain(0, 5), [1, 1, 3, 0, 4, 5]),
    (chain(1, 7), [0]),
    (lost(1, 4), [10, 2, 4, 5]),
    (lost(2, 1), [33, 6, 1, 2, 3, 4, 5, 6]),
    (tree(), [7, 0, -1, 1, 0, 2, 0, 3, 0, 4, 0, 5, 4, 6, 0]),
    (around(2, 6), [1, 3, 0, 3, 6]),
    (around(4, 5), [0]),
    (both(1, 2, 3), [18, 7, 8, 1, 6]),
    (shares(1), [35, 35, 5, 7, 8, 10, 6, 3, 0]),
    (heavy(1), [7, 0, 35, 4, 10, 3, 8, 2, 7, 5, 6, 1, 5, 6, 3]),
]


class WorkedTest(unittest.TestCase):
    def test_load(self):
        self.assertEqual(answers(load(WORKED)), [5, 1, 1, 8, 1, 2])

    def test_each_call_with_its_count(self):
        for call, answer in ANSWERS:
            with self.subTest(call):
                self.assertEqual(answers(load(WORKED) + call), [5, 1, 1, 8, 1, 2, len(answer)] + answer)

    def test_all_calls_in_one_list(self):
        calls = load(WORKED)
        wanted = [5, 1, 1, 8, 1, 2]
        for call, answer in ANSWERS:
            calls += call
            wanted += [len(answer)] + answer
        self.assertEqual(answers(calls), wanted)

    def test_twenty_calls_in_any_order(self):
        calls = lost(0, 0) + load("part a size 3 { } start a ;") + tree()
        wanted = [[-1], [1, 0, 1, 1, 1], [1, 0, -1]]
        calls += load(WORKED)
        wanted.append([1, 1, 8, 1, 2])
        for call, answer in (ANSWERS[::-1] + ANSWERS)[:12]:
            calls += call
            wanted.append(answer)
        calls += load("part a size 3 { } start a ;") + lost(0, 0) + load("nothing") + lost(1, 0)
        wanted += [[1, 0, 1, 1, 1], [3, 1, 0], [0, 3, 0], [3, 1, 0]]
        self.assertEqual(split(answers(calls)), wanted)
        self.assertEqual(len(wanted), 20)


class HandedInTest(unittest.TestCase):
    def test_a_list_stays_and_answers_the_same_again(self):
        calls = load(WORKED)
        for call in [shown(), chain(0, 5), lost(2, 1), tree(), chain(9, 9), load("set"), lost(0, 2)]:
            calls = calls + call
        for call in [shares(2), around(2, 6), both(2, 1, 4), heavy(0), shares(3), around(8, 0), both(0, 1, -1), heavy(2)]:
            calls = calls + call
        before = list(calls)
        first = answers(calls)
        self.assertEqual(calls, before)
        second = answers(calls)
        self.assertEqual(calls, before)
        self.assertEqual(first, second)

    def test_nothing_is_kept_from_one_time_to_the_next(self):
        self.assertEqual(answers(load(WORKED) + tree())[:6], [5, 1, 1, 8, 1, 2])
        for call in [shown(), chain(0, 0), lost(0, 0), tree(), shares(1), around(2, 6), both(1, 2, 3), heavy(1)]:
            self.assertEqual(answers(call), [1, -1])
        smaller = load("part a size 3 { } part b size 4 { } start b ;")
        for call, answer in [(shares(1), [4, 0, 4]), (around(0, 1), [1, 1, 1]), (both(1, 0, 1), [4, 0, 4, 0]), (heavy(1), [1, 1, 4])]:
            self.assertEqual(answers(load(WORKED) + call)[:6], [5, 1, 1, 8, 1, 2])
            self.assertEqual(answers(smaller + call), [5, 1, 0, 2, 1, 1, len(answer)] + answer)

    def test_of_one_program_nothing_is_told_of_the_next_one(self):
        # What is found of a program may be kept while it is held, and no longer.
        calls = [tree(), chain(0, 1), lost(2, 1), shares(0), shares(1), shares(2), around(0, 1), both(2, 0, 1), heavy(2)]
        smaller = "part a size 3 { } part b size 4 { } start b ;"
        found = told(load(WORKED), *calls, load(smaller), *calls)
        self.assertEqual(found[1:10], of(WORKED, *calls))
        self.assertEqual(found[11:], of(smaller, *calls))
        found = told(load(WORKED), *calls, load("part a"), *calls)
        self.assertEqual(found[11:], found[1:10])

    def test_what_is_given_back_is_a_list_of_whole_numbers(self):
        calls = load(WORKED)
        for call in [shown(), chain(0, 5), chain(1, 7), lost(2, 1), tree(), lost(3, 0), load("?")]:
            calls = calls + call
        for call in [shares(0), around(2, 6), around(4, 5), both(2, 2, 3), heavy(2), heavy(-1)]:
            calls = calls + call
        given = answers(calls)
        self.assertIs(list, given.__class__)
        self.assertEqual({number.__class__ for number in given}, {int})

    def test_a_list_given_back_may_be_changed(self):
        calls = load(WORKED) + tree()
        given = answers(calls)
        wanted = list(given)
        given.clear()
        self.assertEqual(answers(calls), wanted)


if __name__ == "__main__":
    unittest.main()
