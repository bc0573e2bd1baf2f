"""shown: the one form."""

import unittest

from tests.helper import WORKED, form, load, of, programs, shown, told


def shown_text(text):
    """What shown answers of a text's program, as a text."""
    answer = of(text, shown())[0]
    assert answer[0] == len(answer) - 1
    return "".join(chr(byte) for byte in answer[1:])


class ShownTest(unittest.TestCase):
    def shows(self, text, *rows):
        wanted = "".join(row + "\n" for row in rows)
        self.assertEqual(shown_text(text), wanted)
        self.assertEqual(shown_text(wanted), wanted)

    def test_the_smallest_program(self):
        wanted = list(b"part a size 1 { }\nstart a ;\n")
        self.assertEqual(of("part a size 1{}start a;", shown()), [[28] + wanted])

    def test_the_worked_text(self):
        self.shows(
            WORKED,
            "set os : lin, win ;",
            "part main size 2 { call io ; make draw + os ; when os is win { call fix ; } say 1 ; }",
            "part io size 5 { say 2 ; }",
            "part drawlin size 7 { call io ; call font ; }",
            "part drawwin size 8 { call font ; say 3 ; }",
            "part fix size 4 { call deep ; }",
            "part deep size 6 { call io ; }",
            "part font size 3 { }",
            "part old size 9 { call fix ; }",
            "start main ;",
        )

    def test_every_kind_of_statement_and_empty_brackets(self):
        self.shows(
            "set s:x,y,z,w;set t:s;part a size 99{say 99;call b;make s;make s+x;make zz+t+s;"
            "when s is w{}when t is s{when s is x{when s is y{say 1;make a;}}}}part b size 1{}start b,a;",
            "set s : x, y, z, w ;",
            "set t : s ;",
            "part a size 99 { say 99 ; call b ; make s ; make s + x ; make zz + t + s ; "
            "when s is w { } when t is s { when s is x { when s is y { say 1 ; make a ; } } } }",
            "part b size 1 { }",
            "start b, a ;",
        )

    def test_remarks_are_left_away(self):
        self.shows("# one\npart a#two\nsize 7 { } start # three\n a ;# four", "part a size 7 { }", "start a ;")

    def test_parts_and_entries_in_the_order_told(self):
        self.shows(
            "part b size 2 { } part c size 3 { } part a size 1 { } part B size 4 { } start c, a, B, b ;",
            "part b size 2 { }",
            "part c size 3 { }",
            "part a size 1 { }",
            "part B size 4 { }",
            "start c, a, B, b ;",
        )

    def test_an_empty_when_and_a_part_with_one_setting(self):
        self.shows("set s : x ; part a size 1 { when s is x { } } start a ;",
                   "set s : x ;", "part a size 1 { when s is x { } }", "start a ;")

    def test_the_one_form_may_be_longer_than_a_text(self):
        text = "part a size 1{" + "say 1;" * 678 + "}start a;"
        answer = of(text, shown())[0]
        self.assertEqual(answer[0], len("part a size 1 { " + "say 1 ; " * 678 + "}\nstart a ;\n"))
        self.assertEqual(len(answer), answer[0] + 1)

    def test_the_one_form_of_many_programs_is_shown_as_it_is(self):
        for program in programs(200, 2):
            text = form(program)
            with self.subTest(text):
                self.assertEqual(shown_text(text), text)
                self.assertEqual(shown_text(text.replace(" ", "\t # x\n ")) if len(text) < 600 else text, text)

    def test_loading_what_is_shown_shows_the_same(self):
        for program in programs(50, 3):
            first = of(form(program), shown())[0]
            self.assertEqual(told(load(first[1:]), shown())[1], first)


if __name__ == "__main__":
    unittest.main()
