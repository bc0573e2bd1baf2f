"""lost: what is lost with a part, by the three modes."""

import unittest

from tests.helper import WORKED, come_to, form, lost, model_come_to, model_lost_answer, of, programs


class Losing(unittest.TestCase):
    """What the tests of lost have in common."""

    def loses(self, text, *rows):
        """Each row: the mode, the part, the parts that are lost with it."""
        sizes = [int(row.split()[0]) for row in text.split(" size ")[1:]]
        found = of(text, *[lost(mode, part) for mode, part, gone in rows])
        for row, answer in zip(rows, found):
            with self.subTest(text, mode=row[0], part=row[1]):
                self.assertEqual(answer, [sum(sizes[part] for part in row[2]), len(row[2])] + row[2])

    def in_all_modes(self, text, *rows):
        """Each row: the part, the parts that are lost with it by any mode."""
        self.loses(text, *[(mode, part, gone) for mode in (0, 1, 2) for part, gone in rows])

    def counts(self, text, parts, mode=2):
        """Just these parts are come to."""
        self.assertEqual(come_to(text, mode, text.count("part ")), parts)


class LostTest(Losing):
    def test_the_worked_text(self):
        rows = [(0, [0, 1, 2, 3, 4, 5, 6]), (1, [1]), (2, [2]), (3, [3]), (4, [4, 5]), (5, [5]), (6, [6]), (7, [])]
        self.loses(WORKED, *[(mode, part, gone) for mode in (0, 1) for part, gone in rows])
        self.loses(
            WORKED,
            (2, 0, [0, 1, 2, 3, 4, 5, 6]), (2, 1, [1, 2, 3, 4, 5, 6]), (2, 2, [2]), (2, 3, [3]), (2, 4, [4, 5]),
            (2, 5, [5]), (2, 6, [4, 5, 6]), (2, 7, []),
        )

    def test_a_part_without_anything(self):
        self.in_all_modes("part a size 7 { } start a ;", (0, [0]))

    def test_sizes_are_added(self):
        text = "part a size 99 { call b ; } part b size 98 { call c ; } part c size 1 { } start a ;"
        self.assertEqual(of(text, lost(1, 0), lost(0, 1), lost(2, 2)), [[198, 3, 0, 1, 2], [99, 2, 1, 2], [1, 1, 2]])

    def test_parts_are_told_in_the_order_of_numbers(self):
        text = "part d size 1 { } part c size 2 { call d ; } part b size 3 { call c ; } part a size 4 { call b ; } start a ;"
        self.in_all_modes(text, (0, [0]), (1, [0, 1]), (2, [0, 1, 2]), (3, [0, 1, 2, 3]))

    def test_a_part_that_is_not_come_to(self):
        text = "part a size 1 { } part b size 2 { call a ; call c ; } part c size 3 { } start a ;"
        self.in_all_modes(text, (0, [0]), (1, []), (2, []))

    def test_nothing_is_lost_behind_a_part_that_other_ways_lead_around(self):
        text = "part a size 1 { make b ; call c ; } part b size 2 { make d ; } part c size 4 { make d ; } part d size 8 { } start a ;"
        self.in_all_modes(text, (0, [0, 1, 2, 3]), (1, [1]), (3, [3]))

    def test_an_entry_left_away(self):
        text = "part a size 1 { call c ; } part b size 2 { call d ; } part c size 4 { } part d size 8 { } start a, b ;"
        self.in_all_modes(text, (0, [0, 2]), (1, [1, 3]), (2, [2]), (3, [3]))
        text = "part a size 1 { call b ; } part b size 2 { call c ; } part c size 4 { } start a, b ;"
        self.in_all_modes(text, (0, [0]), (1, [1, 2]), (2, [2]))

    def test_an_entry_that_another_calls_is_left_away_altogether(self):
        text = "part a size 1 { make b ; } part b size 2 { call c ; } part c size 4 { } start a, b ;"
        self.in_all_modes(text, (1, [1, 2]), (0, [0]))

    def test_parts_that_call_themselves_and_one_another(self):
        text = "part a size 1 { make b ; make a ; } part b size 2 { make c ; make b ; } part c size 4 { make b ; } start a ;"
        self.loses(text, *[(mode, *row) for mode in (0, 1) for row in [(0, [0, 1, 2]), (1, [1, 2]), (2, [2])]])

    def test_by_conditions_all_assignments_count_together(self):
        # c is come to over a in one assignment and over b in the other one.
        text = (
            "set s : x, y ; part m size 1 { when s is x { call a ; } when s is y { call b ; } } "
            "part a size 2 { call c ; } part b size 4 { call c ; } part c size 8 { } start m ;"
        )
        self.in_all_modes(text, (0, [0, 1, 2, 3]), (1, [1]), (2, [2]), (3, [3]))

    def test_by_conditions_whens_of_one_assignment_hang_together(self):
        # By all branches c is come to over b, too, but no assignment leads there.
        text = (
            "set s : x, y ; part m size 1 { call a ; when s is x { call b ; } } part a size 2 { call c ; } "
            "part b size 4 { when s is y { call c ; } } part c size 8 { } start m ;"
        )
        self.loses(text, (0, 1, [1, 3]), (1, 1, [1]), (2, 1, [1, 2, 3]), (0, 2, [2]), (1, 2, [2]), (2, 2, [2]))

    def test_by_conditions_a_part_has_to_be_come_to_in_some_assignment(self):
        text = (
            "set s : x, y ; part m size 1 { when s is x { when s is y { call a ; } } make b + s ; } "
            "part a size 2 { } part bx size 4 { } part by size 8 { } part bz size 16 { } start m ;"
        )
        self.loses(text, (0, 0, [0, 2, 3]), (1, 0, [0, 1, 2, 3]), (2, 0, [0, 2, 3]))
        self.loses(text, (0, 1, []), (1, 1, [1]), (2, 1, []))

    def test_by_all_branches_a_make_has_all_its_names(self):
        text = (
            "set s : x, y ; set t : p, q ; part m size 1 { when s is x { make s + t ; } } part xp size 2 { } "
            "part xq size 4 { } part yp size 8 { } part yq size 16 { } start m ;"
        )
        self.loses(text, (0, 0, [0, 1, 2]), (1, 0, [0, 1, 2, 3, 4]), (2, 0, [0, 1, 2]))


class ExactlyTest(Losing):
    """lost by mode 2, and how runs end."""

    def test_a_call_of_a_part_left_out_ends_the_run(self):
        text = "part a size 1 { call b ; call c ; } part b size 2 { } part c size 4 { } start a ;"
        self.loses(text, (2, 1, [1, 2]), (1, 1, [1]), (0, 1, [1]), (2, 2, [2]))

    def test_also_deeper_within_and_within_brackets(self):
        text = (
            "set s : x ; part a size 1 { when s is x { call b ; } call d ; } part b size 2 { when s is x { call c ; } call e ; } "
            "part c size 4 { } part d size 8 { } part e size 16 { } start a ;"
        )
        self.loses(text, (2, 2, [2, 3, 4]), (2, 1, [1, 2, 3, 4]), (2, 3, [3]), (2, 4, [3, 4]))

    def test_a_make_of_a_part_left_out_does_nothing(self):
        text = "part a size 1 { make b ; call c ; } part b size 2 { call d ; } part c size 4 { } part d size 8 { } start a ;"
        self.loses(text, (2, 1, [1, 3]), (2, 2, [2]), (2, 3, [2, 3]))

    def test_a_run_that_ends_does_not_end_those_of_other_entries_and_assignments(self):
        text = "part a size 1 { call b ; call c ; } part b size 2 { } part c size 4 { } part d size 8 { call c ; } start a, d ;"
        self.loses(text, (2, 1, [1]), (2, 0, [0, 1]))
        text = (
            "set s : x, y ; part a size 1 { when s is x { call b ; } call c ; } part b size 2 { } part c size 4 { } start a ;"
        )
        self.loses(text, (2, 1, [1]))

    def test_an_entry_left_out_ends_its_own_run_and_those_that_call_it(self):
        text = "part a size 1 { call b ; call c ; } part b size 2 { call d ; } part c size 4 { } part d size 8 { } start a, b ;"
        self.loses(text, (2, 1, [1, 2, 3]), (2, 0, [0, 2]))

    def test_a_part_may_be_lost_with_one_that_no_way_needs(self):
        # What stands behind a call is done only if the call comes to an end.
        text = "part a size 1 { call b ; call c ; } part b size 2 { call d ; } part c size 4 { } part d size 8 { } start a ;"
        self.loses(text, (2, 3, [2, 3]), (0, 3, [3]), (1, 3, [3]))

    def test_nothing_is_done_behind_what_ends_too_deep(self):
        self.counts("part a size 1 { call a ; call b ; } part b size 1 { } start a ;", [0])
        self.counts("part a size 1 { make a ; make b ; } part b size 1 { } start a ;", [0])
        self.counts("part a size 1 { call b ; call a ; call c ; } part b size 1 { } part c size 1 { } start a ;", [0, 1])

    def test_within_eight_others_is_not_too_deep(self):
        # n0 calls n1, .. to n8, the ninth; then z is entered behind it.
        parts = ["part n0 size 1 { call n1 ; call z ; }"]
        parts += ["part n%d size 1 { call n%d ; }" % (number, number + 1) for number in range(1, 8)]
        parts += ["part n8 size 1 { %s }", "part z size 1 { }", "start n0 ;"]
        text = " ".join(parts)
        self.counts(text % "", list(range(10)))
        self.counts(text % "say 1 ; make nothing ;", list(range(10)))
        self.counts(text % "call n0 ;", list(range(9)))
        self.counts(text % "call n8 ;", list(range(9)))
        self.counts(text % "make n4 ;", list(range(9)))

    def deep(self, innermost):
        """Nine parts within one another, the innermost one with these statements, and one more, z."""
        parts = ["part n%d size 1 { call n%d ; }" % (number, number + 1) for number in range(8)]
        return " ".join(parts) + " part n8 size 1 { %s } part z size 1 { } start n0 ;" % innermost

    def test_a_part_entered_within_nine_others_counts_as_entered(self):
        for innermost in ["call z ;", "make z ;"]:
            text = self.deep(innermost)
            self.counts(text, list(range(10)))
            self.loses(text, (2, 9, [9]), (2, 8, [8, 9]), (2, 1, list(range(1, 10))))

    def test_two_parts_turn_by_turn(self):
        # a, b, a, b, .. : the tenth is b, so that what stands behind its call is not entered.
        self.counts("part a size 1 { call b ; call c ; } part b size 1 { call a ; } part c size 1 { } start a ;", [0, 1])

    def test_the_same_part_is_counted_each_time(self):
        text = "part a size 1 { call b ; call c ; } part b size 1 { make a ; call c ; } part c size 1 { } start a ;"
        self.counts(text, [0, 1])
        self.loses(text, (2, 1, [1]), (2, 0, [0, 1]))
        # With a left out b's own run goes on to c, which is not lost and was not come to.
        text = text.replace("start a", "start a, b")
        self.counts(text, [0, 1])
        self.loses(text, (2, 1, [1]), (2, 0, [0]))

    def test_whens_are_not_counted_as_parts_within_one_another(self):
        when = "when s is x { when s is x { when s is x { call n%d ; } } }"
        parts = ["part n%d size 1 { %s }" % (number, when % (number + 1)) for number in range(8)]
        text = "set s : x ; " + " ".join(parts) + " part n8 size 1 { call z ; } part z size 1 { } start n0 ;"
        self.counts(text, list(range(10)))
        text = text.replace("call n1 ; } } }", "call n1 ; } } } call z ;").replace("n8 size 1 { call z ; }", "n8 size 1 { }")
        self.counts(text, list(range(10)))

    def test_a_part_left_is_no_longer_counted(self):
        body = "call b ; " * 20
        text = "part a size 1 { %scall c ; } part b size 1 { } part c size 1 { } start a ;" % body
        self.counts(text, [0, 1, 2])

    def test_missing_comes_before_too_deep(self):
        # z is entered within nine others alone; left out it is not entered, so it is lost.
        self.loses(self.deep("call z ;"), (2, 9, [9]))
        self.loses(self.deep("make z ;"), (2, 9, [9]))

    def test_the_hundredth_statement_is_done_the_next_one_not(self):
        for statement in ["say 1 ;", "make x ;", "make x + y + z ;", "when s is y { call b ; }", "when s is x { }", "call c ;"]:
            text = "set s : x, y ; part a size 1 { when s is x { %s call b ; } } part b size 1 { } part c size 1 { } start a ;"
            other = [2] if "call c" in statement else []
            self.counts(text % (statement * 98), [0, 1] + other)
            self.counts(text % (statement * 99), [0] + other)

    def test_the_hundredth_and_the_next_one_in_all_places(self):
        # Each row: statements, how many says may stand in them, what is come to then, and with one more.
        rows = [
            ("%s call b ;", 99, [0, 1], [0]),
            ("%s make b ;", 99, [0, 1], [0]),
            ("call c ; %s call b ;", 98, [0, 1, 2], [0, 2]),
            ("make c ; %s call b ;", 98, [0, 1, 2], [0, 2]),
            ("%s when s is x { call b ; }", 98, [0, 1], [0]),
            ("%s when s is x { when s is x { call b ; } }", 97, [0, 1], [0]),
            ("%s call d ;", 98, [0, 1, 3], [0, 3]),
            ("call d ; %s call c ;", 97, [0, 1, 2, 3], [0, 1, 3]),
            ("when s is x { %s } call b ;", 98, [0, 1], [0]),
            ("when s is x { say 1 ; %s call b ; }", 97, [0, 1], [0]),
        ]
        text = "set s : x ; part a size 1 { %s } part b size 1 { } part c size 1 { } part d size 1 { call b ; } start a ;"
        for body, most, within, beyond in rows:
            for count, wanted in [(most - 1, within), (most, within), (most + 1, beyond), (most + 2, beyond)]:
                with self.subTest(body, count=count):
                    if body == "%s call d ;" and count == most + 2:
                        wanted = [0]
                    self.counts(text % (body % ("say 1 ; " * count)), wanted)

    def test_a_hundred_statements_in_all_end_well(self):
        text = "part a size 1 { %s } part b size 1 { say 1 ; } part c size 1 { } start a, b ;"
        self.counts(text % ("say 1 ;" * 98 + "call b ;"), [0, 1])
        self.counts(text % ("say 1 ;" * 97 + "call b ; call c ;"), [0, 1, 2])
        self.counts(text % ("say 1 ;" * 98 + "call b ; call c ;"), [0, 1])

    def test_each_run_counts_anew(self):
        text = "part a size 1 { %s } part b size 1 { %s call c ; } part c size 1 { } start a, b ;"
        self.counts(text % ("say 1 ;" * 120, "say 1 ;" * 99), [0, 1, 2])
        text = "set s : x, y ; part a size 1 { %s when s is y { call c ; } } part b size 1 { } part c size 1 { } start a ;"
        self.counts(text % ("say 1 ;" * 98), [0, 2])

    def test_many_calls_of_many_calls(self):
        parts = ["part n%d size 1 { call n%d ; call n%d ; }" % (number, number + 1, number + 1) for number in range(8)]
        text = " ".join(parts) + " part n8 size 1 { } part z size 1 { } start n0 ;"
        self.counts(text, list(range(9)))
        text = text.replace("n0 size 1 { call n1 ; call n1 ;", "n0 size 1 { call n1 ; call z ;")
        # The run is too long before z is called; with n6 left out it ends, too, since n6 is missing.
        self.counts(text, list(range(9)))
        self.loses(text, (2, 6, [6, 7, 8]), (1, 9, [9]), (0, 9, [9]), (2, 9, []))

    def test_a_make_left_out_may_bring_more_which_is_not_lost(self):
        text = "part a size 1 { make b ; call c ; } part b size 2 { call b ; } part c size 4 { } start a ;"
        self.loses(text, (2, 1, [1]), (2, 2, []), (2, 0, [0, 1]), (1, 2, [2]))

    def test_any_entry_and_any_assignment(self):
        text = (
            "set s : x, y, z ; part a size 1 { when s is z { call c ; } } part b size 1 { make s + s ; } "
            "part c size 1 { } part yy size 1 { } part zz size 1 { call d ; } part d size 1 { } start b, a ;"
        )
        self.counts(text, [0, 1, 2, 3, 4, 5])
        self.loses(text, (2, 0, [0, 2]), (2, 1, [1, 3, 4, 5]))


class ModelTest(unittest.TestCase):
    def test_many_programs_as_the_model(self):
        differ = [0, 0, 0]
        for program in programs(300, 5):
            text = form(program)
            count = len(program[1])
            calls = [(mode, part) for mode in (0, 1, 2) for part in range(count)]
            answers = of(text, *[lost(mode, part) for mode, part in calls])
            for call, answer in zip(calls, answers):
                with self.subTest(text, call=call):
                    self.assertEqual(answer, model_lost_answer(program, *call))
            reached = [come_to(text, mode, count) for mode in (0, 1, 2)]
            for mode in (0, 1, 2):
                self.assertEqual(reached[mode], sorted(model_come_to(program, mode)))
            differ[0] += reached[0] != reached[1]
            differ[1] += reached[0] != reached[2]
            differ[2] += answers[:count] != answers[2 * count:]
        # The programs are worth trying only if the modes differ in them.
        self.assertGreaterEqual(min(differ), 10)


if __name__ == "__main__":
    unittest.main()
