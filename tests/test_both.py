"""both: what is lost with two parts, with each alone, and what only both together lose."""

import unittest

from tests.helper import WORKED, both, form, lost, model_both, of, programs, webs


class Losing(unittest.TestCase):
    """What the tests of both have in common."""

    def loses(self, text, mode, *rows):
        """Each row: the two parts, the three sizes, the parts that are lost with both and with neither alone."""
        found = of(text, *[both(mode, one, other) for one, other, sizes, only in rows])
        for (one, other, sizes, only), answer in zip(rows, found):
            with self.subTest(text, mode=mode, one=one, other=other):
                self.assertEqual(answer, sizes + [len(only)] + only)

    def in_all_modes(self, text, *rows):
        for mode in (0, 1, 2):
            self.loses(text, mode, *rows)


class BothTest(Losing):
    def test_the_worked_text(self):
        self.in_all_modes(WORKED, (2, 3, [18, 7, 8], [6]), (3, 2, [18, 8, 7], [6]), (4, 5, [10, 10, 6], []))
        self.loses(WORKED, 0, (1, 4, [15, 5, 10], []), (0, 6, [35, 35, 3], []))
        self.loses(WORKED, 1, (1, 4, [15, 5, 10], []), (0, 6, [35, 35, 3], []))
        self.loses(WORKED, 2, (1, 4, [33, 33, 10], []), (6, 1, [33, 13, 33], []), (6, 4, [13, 13, 10], []))

    def test_both_the_same(self):
        each = [35, 5, 7, 8, 10, 6, 3, 0]
        for mode in (0, 1):
            self.loses(WORKED, mode, *[(part, part, [size] * 3, []) for part, size in enumerate(each)])
        self.loses(WORKED, 2, (1, 1, [33] * 3, []), (6, 6, [13] * 3, []), (0, 0, [35] * 3, []), (7, 7, [0] * 3, []))

    def test_lost_with_both_and_with_neither_alone(self):
        text = (
            "part a size 1 { make b ; make c ; make d ; } part b size 2 { call e ; } part c size 4 { call e ; call g ; } "
            "part d size 8 { call g ; } part e size 16 { call f ; } part f size 32 { } part g size 64 { } start a ;"
        )
        self.in_all_modes(text, (1, 2, [54, 2, 4], [4, 5]), (2, 3, [76, 4, 8], [6]), (3, 1, [10, 8, 2], []))

    def test_what_three_ways_lead_to_is_not_lost_with_two(self):
        text = (
            "part a size 1 { make b ; make c ; make d ; } part b size 2 { make e ; } part c size 4 { make e ; } "
            "part d size 8 { make e ; } part e size 16 { } start a ;"
        )
        self.in_all_modes(text, (1, 2, [6, 2, 4], []), (1, 3, [10, 2, 8], []), (4, 1, [18, 16, 2], []))

    def test_one_that_is_lost_within_the_other(self):
        text = "part a size 1 { call b ; } part b size 2 { call c ; } part c size 4 { call d ; } part d size 8 { } start a ;"
        self.in_all_modes(text, (1, 3, [14, 14, 8], []), (3, 1, [14, 8, 14], []), (0, 2, [15, 15, 12], []))

    def test_parts_that_are_not_come_to(self):
        text = "part a size 1 { make b ; } part b size 2 { } part c size 4 { call b ; } part d size 8 { call c ; } start a ;"
        self.in_all_modes(text, (2, 3, [0, 0, 0], []), (2, 1, [2, 0, 2], []), (1, 3, [2, 2, 0], []), (2, 2, [0] * 3, []))

    def test_entries(self):
        text = (
            "part a size 1 { call c ; call d ; } part b size 2 { call c ; } part c size 4 { } part d size 8 { } "
            "part e size 16 { } start a, b, e ;"
        )
        self.in_all_modes(text, (0, 1, [15, 9, 2], [2]), (1, 0, [15, 2, 9], [2]), (0, 4, [25, 9, 16], []))
        self.in_all_modes(text.replace("start a, b, e", "start b, a"), (0, 1, [15, 9, 2], [2]), (4, 0, [9, 0, 9], []))

    def test_all_entries_left_away(self):
        text = "part a size 1 { call c ; } part b size 2 { call c ; } part c size 4 { make d ; } part d size 8 { } start a, b ;"
        self.in_all_modes(text, (0, 1, [15, 1, 2], [2, 3]), (0, 0, [1, 1, 1], []), (2, 3, [12, 12, 8], []))

    def test_the_modes_differ(self):
        # By all branches e is come to over c, too; no assignment leads there.
        text = (
            "set s : x, y ; part a size 1 { make b + s ; make d ; when s is x { make c ; } } part bx size 2 { make e ; } "
            "part c size 4 { when s is y { make e ; } } part d size 8 { when s is y { make e ; } } part e size 16 { } start a ;"
        )
        self.loses(text, 0, (1, 3, [26, 2, 8], [4]), (1, 2, [6, 2, 4], []), (3, 2, [12, 8, 4], []))
        self.loses(text, 1, (1, 3, [10, 2, 8], []), (1, 2, [6, 2, 4], []), (3, 2, [12, 8, 4], []))
        self.loses(text, 2, (1, 3, [26, 2, 8], [4]), (1, 2, [6, 2, 4], []), (3, 2, [12, 8, 4], []))

    def test_by_conditions_all_assignments_count_together(self):
        text = (
            "set s : x, y ; part a size 1 { when s is x { make b ; } when s is y { make c ; } } part b size 2 { make d ; } "
            "part c size 4 { make d ; } part d size 8 { } start a ;"
        )
        self.in_all_modes(text, (1, 2, [14, 2, 4], [3]), (1, 3, [10, 2, 8], []))


class ExactlyTest(Losing):
    """By mode 2 runs may end otherwise with both left out than with one."""

    def test_missing_in_the_runs_of_all_entries(self):
        # Each of the runs ends at another call; d is entered as long as one of them goes on.
        text = (
            "part a size 1 { call b ; call d ; } part b size 2 { } part c size 4 { } part d size 8 { } "
            "part e size 16 { call c ; call d ; } start a, e ;"
        )
        self.loses(text, 2, (1, 2, [14, 2, 4], [3]), (0, 2, [15, 3, 4], [3]), (1, 3, [10, 2, 8], []))
        self.loses(text, 1, (1, 2, [6, 2, 4], []), (0, 2, [7, 3, 4], []))

    def test_less_may_be_lost_with_both_than_with_one(self):
        # With k alone the run ends within g; with g left out, too, it goes on to d.
        text = "part a size 1 { make g ; call d ; } part g size 2 { call k ; } part k size 4 { } part d size 8 { } start a ;"
        self.loses(text, 2, (2, 1, [6, 12, 6], []), (2, 3, [12, 12, 8], []), (1, 3, [14, 6, 8], []))
        self.loses(text, 1, (2, 1, [6, 4, 6], []), (2, 3, [12, 4, 8], []))

    def test_too_deep_no_longer(self):
        # With b left out c is entered, which leads to d; with both nothing does, so d is lost.
        text = (
            "part a size 1 { make b ; make c ; } part b size 2 { call d ; call b ; } part c size 4 { call d ; } "
            "part d size 8 { } start a ;"
        )
        self.loses(text, 2, (1, 2, [10, 2, 0], [3]), (2, 2, [0, 0, 0], []), (1, 1, [2, 2, 2], []), (2, 3, [8, 0, 8], []))
        self.loses(text, 1, (1, 2, [14, 2, 4], [3]))

    def test_too_long_no_longer(self):
        text = (
            "part a size 1 { make b ; make c ; } part b size 2 { make d ; %s } part c size 4 { make d ; } "
            "part d size 8 { } start a ;"
        )
        self.loses(text % ("say 1 ; " * 99), 2, (1, 2, [10, 2, 0], [3]), (0, 2, [11, 11, 0], []))
        self.loses(text % ("say 1 ; " * 97), 2, (1, 2, [14, 2, 4], [3]), (0, 2, [15, 15, 4], []))

    def test_what_is_entered_only_without_another_one_is_not_lost(self):
        text = "part a size 1 { make b ; call c ; } part b size 2 { call b ; } part c size 4 { } start a ;"
        self.loses(text, 2, (1, 2, [2, 2, 0], []), (2, 2, [0, 0, 0], []), (0, 2, [3, 3, 0], []))


class ModelTest(unittest.TestCase):
    def test_many_programs_as_the_model(self):
        only = [0, 0, 0]
        less = 0
        for program in programs(60, 10) + webs(40, 10):
            text = form(program)
            count = len(program[1])
            calls = [(mode, one, other) for mode in (0, 1, 2) for one in range(count) for other in range(one, count)]
            answers = of(text, *[both(*call) for call in calls])
            for call, answer in zip(calls, answers):
                with self.subTest(text, call=call):
                    self.assertEqual(answer, model_both(program, *call))
                only[call[0]] += answer[3] > 0
                less += answer[0] < max(answer[1:3])
            turned = of(text, *[both(mode, other, one) for mode, one, other in calls])
            self.assertEqual(turned, [[row[0], row[2], row[1]] + row[3:] for row in answers], text)
        # The programs are worth trying only if parts are lost with both alone, or fewer than with one.
        self.assertGreaterEqual(min(only), 10)
        self.assertGreaterEqual(less, 3)

    def test_each_alone_as_lost_tells(self):
        for program in programs(30, 11) + webs(30, 11):
            text = form(program)
            last = len(program[1]) - 1
            for mode in (0, 1, 2):
                answer, one, other = of(text, both(mode, 0, last), lost(mode, 0), lost(mode, last))
                self.assertEqual(answer[1:3], [one[0], other[0]], text)


if __name__ == "__main__":
    unittest.main()
