"""heavy: the parts that are come to, those with which the most is lost first."""

import unittest

from tests.helper import WORKED, come_to, form, heavy, lost, model_heavy, of, programs, webs


class Ranking(unittest.TestCase):
    """What the tests of heavy have in common."""

    def ranks(self, text, mode, *rows):
        """Each row: a part, and how large what is lost with it is."""
        with self.subTest(text, mode=mode):
            self.assertEqual(of(text, heavy(mode)), [[len(rows)] + [number for row in rows for number in row]])

    def in_all_modes(self, text, *rows):
        for mode in (0, 1, 2):
            self.ranks(text, mode, *rows)


class HeavyTest(Ranking):
    def test_the_worked_text(self):
        for mode in (0, 1):
            self.ranks(WORKED, mode, (0, 35), (4, 10), (3, 8), (2, 7), (5, 6), (1, 5), (6, 3))
        self.ranks(WORKED, 2, (0, 35), (1, 33), (6, 13), (4, 10), (3, 8), (2, 7), (5, 6))

    def test_a_part_by_itself(self):
        self.in_all_modes("part a size 99 { } start a ;", (0, 99))
        self.in_all_modes("part b size 5 { } part a size 99 { } part c size 6 { call b ; } start a ;", (1, 99))

    def test_alike_ones_by_number(self):
        text = (
            "part a size 5 { } part b size 3 { } part c size 5 { } part d size 3 { } part e size 5 { } "
            "part f size 1 { make e ; make d ; make c ; make b ; make a ; } start f ;"
        )
        self.in_all_modes(text, (5, 22), (0, 5), (2, 5), (4, 5), (1, 3), (3, 3))
        text = "part a size 1 { } part b size 2 { } part c size 1 { } part d size 1 { make b ; } start d, c, b, a ;"
        self.in_all_modes(text, (1, 2), (0, 1), (2, 1), (3, 1))

    def test_ten_alike_ones(self):
        parts = ["part n%d size 7 { make n9 ; }" % number for number in range(6)]
        parts += ["part n%d size 7 { }" % number for number in range(6, 10)]
        text = " ".join(parts) + " start n8, n3, n9, n0 ;"
        self.in_all_modes(text, (0, 7), (3, 7), (8, 7), (9, 7))

    def test_it_is_what_is_lost_that_counts_not_the_own_size(self):
        text = (
            "part a size 1 { make b ; make c ; } part b size 90 { make e ; } part c size 2 { make d ; make e ; } "
            "part d size 95 { } part e size 99 { } start a ;"
        )
        self.in_all_modes(text, (0, 287), (4, 99), (2, 97), (3, 95), (1, 90))

    def test_parts_that_are_not_come_to(self):
        text = (
            "part x size 90 { call y ; } part a size 1 { make b ; } part y size 80 { } part b size 2 { } "
            "part z size 70 { call a ; } start a ;"
        )
        self.in_all_modes(text, (1, 3), (3, 2))

    def test_the_modes_differ(self):
        text = (
            "set s : x, y ; part m size 1 { make a ; when s is x { when s is y { call d ; } make b ; } } "
            "part a size 4 { make c ; } part b size 8 { when s is y { make c ; } } part c size 5 { } "
            "part d size 16 { make e + s ; } part ex size 32 { } start m ;"
        )
        for mode in (0, 2):
            self.ranks(text, mode, (0, 18), (1, 9), (2, 8), (3, 5))
        self.ranks(text, 1, (0, 66), (4, 48), (5, 32), (2, 8), (3, 5), (1, 4))


class ExactlyTest(Ranking):
    """By mode 2 other parts may be come to with something left out."""

    def test_a_part_that_is_entered_only_without_another_one_is_not_told(self):
        text = "part a size 1 { make b ; call c ; } part b size 2 { %s } part c size 4 { } start a ;"
        self.ranks(text % "call b ;", 2, (0, 3), (1, 2))
        self.ranks(text % "make b ;", 2, (0, 3), (1, 2))
        self.ranks(text % ("say 1 ; " * 99), 2, (0, 3), (1, 2))
        self.ranks(text % ("say 1 ; " * 98), 2, (0, 7), (2, 4), (1, 2))
        for mode in (0, 1):
            self.ranks(text % "call b ;", mode, (0, 7), (2, 4), (1, 2))

    def test_a_part_that_is_called_first_is_heavy(self):
        text = "part a size 9 { call b ; call c ; } part b size 1 { } part c size 8 { call d ; } part d size 7 { } start a ;"
        self.ranks(text, 2, (0, 25), (1, 16), (2, 15), (3, 7))
        for mode in (0, 1):
            self.ranks(text, mode, (0, 25), (2, 15), (3, 7), (1, 1))

    def test_alike_ones_by_number(self):
        # With b and with c left out the run ends before d; they and d weigh alike but for themselves.
        text = "part a size 1 { call b ; call c ; call d ; } part b size 2 { } part c size 2 { } part d size 4 { } start a ;"
        self.ranks(text, 2, (0, 9), (1, 8), (2, 6), (3, 4))
        text = "part d size 4 { } part c size 2 { } part b size 2 { make d ; call c ; } part a size 1 { call b ; } start a ;"
        self.ranks(text, 2, (3, 9), (2, 8), (0, 4), (1, 2))
        text = "part d size 2 { } part b size 2 { call c ; } part c size 2 { } part a size 1 { make b ; call d ; } start a ;"
        self.ranks(text, 2, (3, 7), (1, 4), (2, 4), (0, 2))


class ModelTest(unittest.TestCase):
    def test_many_programs_as_the_model(self):
        alike = 0
        for program in programs(150, 12) + webs(50, 12):
            text = form(program)
            count = len(program[1])
            for mode in (0, 1, 2):
                answer = of(text, heavy(mode))[0]
                with self.subTest(text, mode=mode):
                    self.assertEqual(answer, model_heavy(program, mode))
                    self.assertEqual(sorted(answer[1::2]), come_to(text, mode, count))
                each = of(text, *[lost(mode, part) for part in answer[1::2]])
                self.assertEqual(answer[2::2], [row[0] for row in each], text)
                alike += len(set(answer[2::2])) < answer[0]
        # The programs are worth trying only if some parts weigh alike.
        self.assertGreaterEqual(alike, 10)


if __name__ == "__main__":
    unittest.main()
