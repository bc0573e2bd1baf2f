"""shares: how large what is lost with each part is."""

import unittest

from tests.helper import WORKED, form, lost, model_shares, of, programs, shares, webs


class Sharing(unittest.TestCase):
    """What the tests of shares have in common."""

    def shares(self, text, mode, whole, *each):
        """How large all that is come to is, and what is lost with each part."""
        with self.subTest(text, mode=mode):
            self.assertEqual(of(text, shares(mode)), [[whole] + list(each)])

    def in_all_modes(self, text, whole, *each):
        for mode in (0, 1, 2):
            self.shares(text, mode, whole, *each)


class SharesTest(Sharing):
    def test_the_worked_text(self):
        self.shares(WORKED, 1, 35, 35, 5, 7, 8, 10, 6, 3, 0)
        self.shares(WORKED, 0, 35, 35, 5, 7, 8, 10, 6, 3, 0)
        # By mode 2 what stands behind a call is lost with the part that is called, too.
        self.shares(WORKED, 2, 35, 35, 33, 7, 8, 10, 6, 13, 0)

    def test_a_part_by_itself(self):
        self.in_all_modes("part a size 7 { } start a ;", 7, 7)
        self.in_all_modes("part a size 99 { make a ; } start a ;", 99, 99)

    def test_parts_that_are_not_come_to(self):
        text = "part x size 5 { call a ; } part a size 1 { } part y size 9 { call x ; } part b size 2 { } start b ;"
        self.in_all_modes(text, 2, 0, 0, 0, 2)

    def test_an_entry_with_which_nearly_all_is_lost(self):
        text = (
            "part a size 1 { call c ; } part b size 2 { call d ; } part c size 90 { call e ; } part d size 4 { } "
            "part e size 80 { } start b, a ;"
        )
        for mode in (0, 1):
            self.shares(text, mode, 177, 171, 6, 170, 4, 80)
        self.shares(text, 2, 177, 171, 6, 170, 4, 80)

    def test_a_loss_takes_others_along(self):
        text = (
            "part a size 1 { make b ; make c ; } part b size 2 { make d ; } part c size 4 { make d ; make e ; } "
            "part d size 8 { } part e size 16 { make f ; } part f size 32 { } start a ;"
        )
        self.in_all_modes(text, 63, 63, 2, 52, 8, 48, 32)

    def test_what_two_entries_come_to_is_a_share_of_neither(self):
        text = "part a size 1 { call c ; } part b size 2 { call c ; } part c size 4 { } start a, b ;"
        self.in_all_modes(text, 7, 1, 2, 4)

    def test_the_modes_differ(self):
        text = (
            "set s : x, y ; part m size 1 { call a ; when s is x { when s is y { call d ; } call b ; } } "
            "part a size 2 { call c ; } part b size 4 { when s is y { call c ; } } part c size 8 { } "
            "part d size 16 { make e + s ; } part ex size 32 { } start m ;"
        )
        self.shares(text, 0, 15, 15, 10, 4, 8, 0, 0)
        self.shares(text, 1, 63, 63, 2, 4, 8, 48, 32)
        # The runs end at the call of a, or of c within it, so that b is lost with each of them.
        self.shares(text, 2, 15, 15, 14, 4, 12, 0, 0)

    def test_the_greatest_sizes(self):
        parts = ["part n%d size 99 { make n%d ; }" % (number, number + 1) for number in range(10)]
        self.in_all_modes(" ".join(parts) + " start n0 ;", 990, *[99 * (10 - number) for number in range(10)])


class ExactlyTest(Sharing):
    """By mode 2 more may be entered if something is left out."""

    def test_too_deep_no_longer(self):
        text = "part a size 1 { make b ; call c ; } part b size 2 { call b ; } part c size 4 { } start a ;"
        self.shares(text, 2, 3, 3, 2, 0)
        self.shares(text, 1, 7, 7, 2, 4)

    def test_too_long_no_longer(self):
        text = "part a size 1 { make b ; call c ; } part b size 2 { %s } part c size 4 { } start a ;"
        self.shares(text % ("say 1 ; " * 98), 2, 7, 7, 2, 4)
        self.shares(text % ("say 1 ; " * 99), 2, 3, 3, 2, 0)

    def test_missing(self):
        # With c left out nothing behind its call is entered: d is lost with c, e is not come to.
        text = (
            "part a size 1 { make b ; make d ; } part b size 2 { call c ; } part c size 4 { } part d size 8 { call d ; call e ; } "
            "part e size 16 { } start a ;"
        )
        self.shares(text, 2, 15, 15, 6, 12, 8, 0)
        self.shares(text, 1, 31, 31, 6, 4, 24, 16)

    def test_missing_within_what_is_left_out_itself(self):
        text = "part a size 1 { make g ; call d ; } part g size 2 { call k ; } part k size 4 { } part d size 8 { } start a ;"
        self.shares(text, 2, 15, 15, 6, 12, 8)


class ModelTest(unittest.TestCase):
    def test_many_programs_as_the_model(self):
        differ = [0, 0]
        for program in programs(150, 8) + webs(60, 8):
            text = form(program)
            found = of(text, shares(0), shares(1), shares(2))
            with self.subTest(text):
                self.assertEqual(found, [model_shares(program, mode) for mode in (0, 1, 2)])
            for mode in (0, 1, 2):
                each = of(text, *[lost(mode, part) for part in range(len(program[1]))])
                self.assertEqual(found[mode][1:], [answer[0] for answer in each], text)
            differ[0] += found[0] != found[1]
            differ[1] += found[0] != found[2]
        # The programs are worth trying only if the modes differ in them.
        self.assertGreaterEqual(min(differ), 10)


if __name__ == "__main__":
    unittest.main()
