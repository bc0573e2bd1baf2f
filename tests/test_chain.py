"""chain: the shortest chain to a part."""

import unittest

from tests.helper import WORKED, chain, form, model_chain, of, programs


class ChainTest(unittest.TestCase):
    def chains(self, text, *rows):
        """Each row: the mode, the part, the answer."""
        found = of(text, *[chain(mode, part) for mode, part, answer in rows])
        self.assertEqual(found, [answer for mode, part, answer in rows])

    def test_the_worked_text(self):
        self.chains(
            WORKED,
            (0, 0, [1, 0, 1, 0]), (0, 1, [1, 0, 2, 0, 1]), (0, 2, [1, 0, 2, 0, 2]), (0, 3, [1, 1, 2, 0, 3]),
            (0, 4, [1, 1, 2, 0, 4]), (0, 5, [1, 1, 3, 0, 4, 5]), (0, 6, [1, 0, 3, 0, 2, 6]), (0, 7, [0]),
        )
        self.chains(
            WORKED,
            (1, 0, [1, 0, 1, 0]), (1, 1, [1, 0, 2, 0, 1]), (1, 2, [1, 0, 2, 0, 2]), (1, 3, [1, 0, 2, 0, 3]),
            (1, 4, [1, 0, 2, 0, 4]), (1, 5, [1, 0, 3, 0, 4, 5]), (1, 6, [1, 0, 3, 0, 2, 6]), (1, 7, [0]),
        )

    def test_an_entry_is_a_chain_by_itself(self):
        text = "part a size 1 { call b ; } part b size 1 { call b ; call a ; } start a, b ;"
        for mode in (0, 1):
            self.chains(text, (mode, 0, [1, 0, 1, 0]), (mode, 1, [1, 0, 1, 1]))

    def test_parts_that_are_not_come_to(self):
        text = "set s : x, y ; part a size 1 { make c + s ; } part b size 1 { call a ; call c ; } part c size 1 { } start a ;"
        for mode in (0, 1):
            self.chains(text, (mode, 0, [1, 0, 1, 0]), (mode, 1, [0]), (mode, 2, [0]))

    def test_the_order_of_the_entries_decides(self):
        text = "part a size 1 { call c ; } part b size 1 { call c ; } part c size 1 { call d ; } part d size 1 { } start %s ;"
        for mode in (0, 1):
            self.chains(text % "a, b", (mode, 2, [1, 0, 2, 0, 2]), (mode, 3, [1, 0, 3, 0, 2, 3]))
            self.chains(text % "b, a", (mode, 2, [1, 0, 2, 1, 2]), (mode, 3, [1, 0, 3, 1, 2, 3]))

    def test_the_order_of_numbers_decides_not_that_of_statements(self):
        text = (
            "part a size 1 { call c ; call b ; } part b size 1 { call d ; } part c size 1 { call d ; } "
            "part d size 1 { } start a ;"
        )
        for mode in (0, 1):
            self.chains(text, (mode, 3, [1, 0, 3, 0, 1, 3]))

    def test_the_order_of_the_last_round_comes_before_that_of_numbers(self):
        # The entry b comes first, so its chain to d is found before that over c.
        text = (
            "part a size 1 { call c ; } part b size 1 { call d ; } part c size 1 { call e ; } "
            "part d size 1 { call e ; } part e size 1 { } start b, a ;"
        )
        for mode in (0, 1):
            self.chains(text, (mode, 4, [1, 0, 3, 1, 3, 4]))

    def test_the_shorter_way_wins_over_the_lesser_numbers(self):
        text = (
            "part a size 1 { call b ; call d ; } part b size 1 { call c ; } part c size 1 { call e ; } "
            "part d size 1 { call e ; } part e size 1 { } start a ;"
        )
        for mode in (0, 1):
            self.chains(text, (mode, 4, [1, 0, 3, 0, 3, 4]))

    def test_the_first_of_the_assignments_with_the_shortest(self):
        text = (
            "set s : x, y, z, w ; part a size 1 { when s is y { call b ; } when s is z { call c ; } "
            "when s is w { call c ; } } part b size 1 { call c ; } part c size 1 { call d ; } part d size 1 { } start a ;"
        )
        self.chains(text, (0, 0, [1, 0, 1, 0]), (0, 1, [1, 1, 2, 0, 1]), (0, 2, [1, 2, 2, 0, 2]), (0, 3, [1, 2, 3, 0, 2, 3]))
        self.chains(text, (1, 0, [1, 0, 1, 0]), (1, 1, [1, 0, 2, 0, 1]), (1, 2, [1, 0, 2, 0, 2]), (1, 3, [1, 0, 3, 0, 2, 3]))

    def test_an_earlier_assignment_that_is_as_short_stays(self):
        text = (
            "set s : x, y ; part a size 1 { when s is x { call c ; } when s is y { call b ; } } "
            "part b size 1 { call d ; } part c size 1 { call d ; } part d size 1 { } start a ;"
        )
        self.chains(text, (0, 3, [1, 0, 3, 0, 2, 3]), (1, 3, [1, 0, 3, 0, 1, 3]))

    def test_numbers_of_assignments(self):
        text = (
            "set s : x, y ; set t : p, q, r ; set u : k, l ; "
            "part a size 1 { make s + t + u ; } %s start a ;"
        )
        words = [s + t + u for u in "kl" for t in "pqr" for s in "xy"]
        for number, word in enumerate(words):
            answer = [1, number, 2, 0, 1]
            self.chains(text % ("part %s size 1 { }" % word), (0, 1, answer), (1, 1, [1, 0, 2, 0, 1]))

    def test_no_chain_goes_from_one_assignment_into_another(self):
        text = (
            "set s : x, y ; part a size 1 { when s is x { call b ; } } part b size 1 { when s is y { call c ; } } "
            "part c size 1 { } start a ;"
        )
        self.chains(text, (0, 1, [1, 0, 2, 0, 1]), (0, 2, [0]), (1, 2, [1, 0, 3, 0, 1, 2]))

    def test_whens_that_never_hold(self):
        text = (
            "set s : x, y ; part a size 1 { when s is x { when s is y { call b ; make c + s ; } } } "
            "part b size 1 { } part cx size 1 { } part cy size 1 { } start a ;"
        )
        self.chains(text, (0, 1, [0]), (0, 2, [0]), (0, 3, [0]))
        self.chains(text, (1, 1, [1, 0, 2, 0, 1]), (1, 2, [1, 0, 2, 0, 2]), (1, 3, [1, 0, 2, 0, 3]))

    def test_a_make_in_a_when_has_by_conditions_only_the_names_of_the_assignment(self):
        text = (
            "set s : x, y ; part a size 1 { when s is x { make c + s ; } } part cx size 1 { } part cy size 1 { } start a ;"
        )
        self.chains(text, (0, 1, [1, 0, 2, 0, 1]), (0, 2, [0]), (1, 1, [1, 0, 2, 0, 1]), (1, 2, [1, 0, 2, 0, 2]))

    def test_made_names_need_not_mean_a_part(self):
        text = "part a size 1 { make b + b ; make a + b ; make c ; } part b size 1 { } part ab size 1 { } start a ;"
        for mode in (0, 1):
            self.chains(text, (mode, 1, [0]), (mode, 2, [1, 0, 2, 0, 2]))

    def test_a_setting_stands_for_its_word_also_if_a_word_is_called_like_a_setting(self):
        text = (
            "set s : t, u ; set t : s, v ; part a size 1 { make s + t ; } part ts size 1 { } part uv size 1 { } "
            "part st size 1 { } part us size 1 { } part tv size 1 { } start a ;"
        )
        self.chains(
            text,
            (0, 1, [1, 0, 2, 0, 1]), (0, 4, [1, 1, 2, 0, 4]), (0, 5, [1, 2, 2, 0, 5]), (0, 2, [1, 3, 2, 0, 2]), (0, 3, [0]),
        )

    def test_a_chain_over_all_ten_parts(self):
        parts = ["part n%d size 1 { call n%d ; }" % (number, (number + 1) % 10) for number in range(10)]
        text = " ".join(parts) + " start n3 ;"
        for mode in (0, 1):
            self.chains(text, (mode, 2, [1, 0, 10, 3, 4, 5, 6, 7, 8, 9, 0, 1, 2]))

    def test_many_programs_as_the_model(self):
        found = {}
        for program in programs(250, 4):
            count = len(program[1])
            calls = [(mode, part) for mode in (0, 1) for part in range(count)]
            answers = of(form(program), *[chain(mode, part) for mode, part in calls])
            for call, answer in zip(calls, answers):
                with self.subTest(form(program), call=call):
                    self.assertEqual(answer, model_chain(program, *call))
                found[tuple(answer[1:3])] = True
        # The programs are worth trying only if they have chains of many lengths and assignments.
        self.assertGreaterEqual(max(row[1] for row in found if row), 5)
        self.assertGreaterEqual(len({row[0] for row in found if row}), 5)


if __name__ == "__main__":
    unittest.main()
