"""around: the shortest chain by all branches that goes without a part."""

import unittest

from tests.helper import WORKED, around, chain, entry_numbers, form, model_around, of, programs, webs


class AroundTest(unittest.TestCase):
    def arounds(self, text, *rows):
        """Each row: the part that nothing leads to, the part that is looked for, and the chain, or None."""
        found = of(text, *[around(part, goal) for part, goal, way in rows])
        for (part, goal, way), answer in zip(rows, found):
            with self.subTest(text, part=part, goal=goal):
                self.assertEqual(answer, [0] if way is None else [1, len(way)] + way)

    def test_the_worked_text(self):
        self.arounds(WORKED, (2, 6, [0, 3, 6]), (4, 5, None))
        self.arounds(
            WORKED, (3, 6, [0, 2, 6]), (7, 6, [0, 2, 6]), (1, 4, [0, 4]), (1, 5, [0, 4, 5]), (5, 1, [0, 1]), (5, 7, None),
            (4, 7, None), (6, 0, [0]), (7, 0, [0]), (2, 3, [0, 3]), (3, 2, [0, 2]),
        )
        self.arounds(WORKED, *[(0, goal, None) for goal in range(8)])

    def test_both_the_same(self):
        self.arounds(WORKED, *[(part, part, None) for part in range(8)])
        text = "part a size 1 { call a ; call b ; } part b size 1 { call b ; call a ; } start a, b ;"
        self.arounds(text, (0, 0, None), (1, 1, None))

    def test_without_the_only_entry_nothing_is_come_to(self):
        text = "part a size 1 { call b ; } part b size 1 { call a ; call c ; } part c size 1 { } start b ;"
        self.arounds(text, (1, 0, None), (1, 1, None), (1, 2, None), (0, 1, [1]), (0, 2, [1, 2]))

    def test_without_one_of_several_entries(self):
        text = (
            "part a size 1 { call c ; } part b size 1 { call d ; } part c size 1 { call e ; } part d size 1 { call c ; } "
            "part e size 1 { } start a, b ;"
        )
        self.arounds(text, (0, 2, [1, 3, 2]), (0, 4, [1, 3, 2, 4]), (0, 3, [1, 3]), (1, 3, None), (1, 4, [0, 2, 4]))
        # Among four entries the order of those that are left decides.
        text = (
            "part a size 1 { call e ; } part b size 1 { call e ; } part c size 1 { call e ; } part d size 1 { call e ; } "
            "part e size 1 { } start d, b, a, c ;"
        )
        self.arounds(text, (3, 4, [1, 4]), (1, 4, [3, 4]), (0, 4, [3, 4]), (4, 4, None), (4, 2, [2]))

    def test_an_entry_that_another_entry_calls_is_gone_altogether(self):
        text = "part a size 1 { call b ; } part b size 1 { call c ; } part c size 1 { } start a, b ;"
        self.arounds(text, (1, 2, None), (1, 0, [0]), (0, 2, [1, 2]), (2, 1, [1]))

    def test_to_an_entry(self):
        text = "part a size 1 { call b ; call c ; } part b size 1 { } part c size 1 { call b ; } start a, b ;"
        self.arounds(text, (0, 1, [1]), (2, 1, [1]), (2, 0, [0]), (1, 0, [0]))

    def test_to_parts_that_are_not_come_to(self):
        text = "part a size 1 { } part b size 1 { call c ; call d ; } part c size 1 { } part d size 1 { call c ; } start a ;"
        self.arounds(text, (3, 2, None), (1, 2, None), (0, 1, None), (2, 1, None), (1, 0, [0]))

    def test_a_longer_way_than_the_shortest_chain(self):
        text = (
            "part a size 1 { call b ; call c ; } part b size 1 { call f ; } part c size 1 { call d ; } "
            "part d size 1 { call e ; } part e size 1 { call f ; } part f size 1 { call g ; } part g size 1 { } start a ;"
        )
        self.assertEqual(of(text, chain(1, 5), chain(1, 6)), [[1, 0, 3, 0, 1, 5], [1, 0, 4, 0, 1, 5, 6]])
        self.arounds(text, (1, 5, [0, 2, 3, 4, 5]), (1, 6, [0, 2, 3, 4, 5, 6]), (3, 6, [0, 1, 5, 6]), (5, 6, None))

    def test_a_way_over_ten_parts_but_one(self):
        parts = ["part n0 size 1 { call n1 ; call n2 ; }", "part n1 size 1 { call n9 ; }"]
        parts += ["part n%d size 1 { call n%d ; }" % (number, number + 1) for number in range(2, 9)]
        text = " ".join(parts) + " part n9 size 1 { call n0 ; } start n0 ;"
        self.arounds(text, (1, 9, [0, 2, 3, 4, 5, 6, 7, 8, 9]), (8, 9, [0, 1, 9]), (9, 1, [0, 1]))

    def test_no_way_around(self):
        text = "part a size 1 { call b ; } part b size 1 { call c ; } part c size 1 { call b ; call d ; } part d size 1 { } start a ;"
        self.arounds(text, (1, 2, None), (1, 3, None), (2, 3, None), (3, 2, [0, 1, 2]))

    def test_parts_that_call_themselves_and_one_another(self):
        text = (
            "part a size 1 { call a ; call b ; call c ; } part b size 1 { call b ; call d ; } "
            "part c size 1 { call c ; call a ; call d ; } part d size 1 { call d ; call b ; call c ; } start a ;"
        )
        self.arounds(text, (1, 3, [0, 2, 3]), (2, 3, [0, 1, 3]), (3, 1, [0, 1]), (0, 3, None), (3, 3, None))

    def test_the_order_of_rounds_holds_of_what_is_left(self):
        # To f go chains over b, c and d; the first one left is told, by the order of the round before.
        text = (
            "part a size 1 { call d ; call c ; call b ; } part b size 1 { call f ; } part c size 1 { call f ; } "
            "part d size 1 { call f ; } part e size 1 { call c ; } part f size 1 { } start a, e ;"
        )
        self.arounds(text, (1, 5, [0, 2, 5]), (2, 5, [0, 1, 5]), (0, 5, [4, 2, 5]), (3, 5, [0, 1, 5]))
        text = text.replace("start a, e", "start e, a")
        self.arounds(text, (1, 5, [4, 2, 5]), (2, 5, [0, 1, 5]), (4, 5, [0, 1, 5]))

    def test_all_branches_count(self):
        text = (
            "set s : x, y ; part a size 1 { call b ; when s is x { when s is y { call c ; } make d + s ; } } "
            "part b size 1 { call e ; } part c size 1 { call e ; } part dx size 1 { } part e size 1 { call f ; } "
            "part f size 1 { } part dy size 1 { call f ; } start a ;"
        )
        self.arounds(text, (1, 4, [0, 2, 4]), (2, 4, [0, 1, 4]), (4, 5, [0, 6, 5]), (3, 6, [0, 6]), (6, 5, [0, 1, 4, 5]))

    def test_a_chain_may_go_through_several_assignments(self):
        text = (
            "set s : x, y ; part a size 1 { call d ; when s is x { call b ; } } part b size 1 { when s is y { call c ; } } "
            "part c size 1 { } part d size 1 { call c ; } start a ;"
        )
        self.arounds(text, (3, 2, [0, 1, 2]), (1, 2, [0, 3, 2]))

    def test_made_names_count_and_may_mean_the_part(self):
        text = "part a size 1 { make b + c ; make c ; } part bc size 1 { make d ; } part c size 1 { make d ; } part d size 1 { } start a ;"
        self.arounds(text, (1, 3, [0, 2, 3]), (2, 3, [0, 1, 3]), (1, 2, [0, 2]))


class ModelTest(unittest.TestCase):
    def test_many_programs_as_the_model(self):
        seen = {}
        for program in programs(100, 9) + webs(100, 9):
            text = form(program)
            count = len(program[1])
            calls = [(part, goal) for part in range(count) for goal in range(count)]
            answers = of(text, *[around(part, goal) for part, goal in calls])
            chains = of(text, *[chain(1, goal) for part, goal in calls])
            for (part, goal), answer, plain in zip(calls, answers, chains):
                with self.subTest(text, part=part, goal=goal):
                    self.assertEqual(answer, model_around(program, part, goal))
                # Nothing is left out of a chain that goes without the part by itself.
                if plain[0] == 1 and part not in plain[3:]:
                    self.assertEqual(len(answer[2:]), plain[2])
                kind = (part in entry_numbers(program), plain[0], answer[0], answer[1:2] > plain[2:3])
                seen[kind] = seen.get(kind, 0) + 1
        # The programs are worth trying only if there are longer ways, and none, with entries and others.
        for kind in [(True, 1, 0), (False, 1, 0), (True, 0, 0), (False, 0, 0)]:
            self.assertGreaterEqual(seen.get(kind + (False,), 0), 10)
        for kind in [(True, 1, 1), (False, 1, 1)]:
            self.assertGreaterEqual(seen.get(kind + (True,), 0), 10)
            self.assertGreaterEqual(seen.get(kind + (False,), 0), 10)


if __name__ == "__main__":
    unittest.main()
