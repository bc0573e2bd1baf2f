"""load: texts that tell a program."""

import string
import unittest

from tests.helper import WORKED, come_to, form, load, lost, of, programs, shown, told, tree

SMALLEST = "part a size 1 { } start a ;"


def names(count):
    return ["n%d" % number for number in range(count)]


def parts(count):
    return " ".join("part %s size 1 { }" % name for name in names(count))


class RightTest(unittest.TestCase):
    def right(self, text, settings, parts, entries, assignments):
        self.assertEqual(told(load(text)), [[1, settings, parts, entries, assignments]])

    def test_the_worked_text(self):
        self.right(WORKED, 1, 8, 1, 2)

    def test_smallest(self):
        self.right(SMALLEST, 0, 1, 1, 1)

    def test_settings(self):
        self.right("set s : x ; " + SMALLEST, 1, 1, 1, 1)
        self.right("set s : x, y ; set t : x, y, z ; " + SMALLEST, 2, 1, 1, 6)
        self.right("set s : x, y ; set t : x, y, z ; set u : z ; " + SMALLEST, 3, 1, 1, 6)

    def test_words(self):
        self.right("set s : x, y, z, w ; " + SMALLEST, 1, 1, 1, 4)
        row = " : x, y, z, w ; "
        self.right("set s" + row + "set t" + row + "set u" + row + SMALLEST, 3, 1, 1, 64)

    def test_parts_and_entries(self):
        self.right(parts(10) + " start n9 ;", 0, 10, 1, 1)
        self.right(parts(10) + " start n9, n0, n5, n4 ;", 0, 10, 4, 1)
        self.right(parts(4) + " start n3, n2, n1, n0 ;", 0, 4, 4, 1)

    def test_sizes_and_amounts(self):
        text = "part a size 1 { say 1 ; say 99 ; } part b size 99 { } start a, b ;"
        self.assertEqual(of(text, lost(1, 0), lost(1, 1)), [[1, 1, 0], [99, 1, 1]])

    def test_pieces(self):
        text = "part a size 1 { make b ; make b + c ; make b + c + d ; } %s start a ;"
        text = text % "part b size 1 { } part bc size 1 { } part bcd size 1 { }"
        self.right(text, 0, 4, 1, 1)
        self.assertEqual(come_to(text, 0, 4), [0, 1, 2, 3])

    def test_whens_three_deep_and_beside_one_another(self):
        when = "when s is x { %s } "
        inner = when % "call b ;" + when % "" + when % "say 1 ;"
        body = when % (when % inner + inner) + when % (when % inner)
        text = "set s : x ; part a size 1 { " + body + "} part b size 1 { } start a ;"
        self.right(text, 1, 2, 1, 1)
        self.assertEqual(come_to(text, 0, 2), [0, 1])

    def test_names_of_sixteen_bytes(self):
        name = "abcdefghij0123ZZ"
        text = "set S%s : W%s ; part P%s size 1 { call P%s ; make W%s ; when S%s is W%s { } } start P%s ;"
        text = text.replace("%s", name[1:])
        self.right(text, 1, 1, 1, 1)

    def test_names_of_one_byte_and_of_all_bytes(self):
        letters = string.ascii_letters
        for name in list(letters) + ["x" + sign for sign in letters + string.digits] + ["a0", "A9z", "zZ5aA"]:
            self.right("part %s size 1 { } start %s ;" % (name, name), 0, 1, 1, 1)

    def test_large_and_small_letters_differ(self):
        self.right("part a size 1 { } part A size 1 { } start a, A ;", 0, 2, 2, 1)

    def test_words_that_begin_with_or_contain_what_is_no_name(self):
        for name in ["sets", "Set", "PART", "parts", "size1", "starting", "says", "recall", "maker", "whenis", "iss"]:
            self.right("part %s size 1 { call %s ; } start %s ;" % (name, name, name), 0, 1, 1, 1)

    def test_words_may_be_called_like_settings_parts_and_words_of_others(self):
        self.right("set s : s, t, a ; set t : s, t, a ; part a size 1 { make s + t + a ; } start a ;", 2, 1, 1, 9)

    def test_a_part_called_later_and_a_part_that_calls_itself(self):
        self.right("part a size 1 { call b ; call a ; } part b size 1 { } start a ;", 0, 2, 1, 1)

    def test_greatest_number_is_a_token(self):
        # It is a number, so that what is wrong is its size, not that no token begins there.
        self.assertEqual(told(load("part a size 1000000000 { } start a ;")), [[0, 7, 12]])
        self.assertEqual(told(load("part a size 1 { say 1000000000 ; } start a ;")), [[0, 7, 20]])

    def test_a_text_of_4096_bytes(self):
        self.right(SMALLEST + " " * (4096 - len(SMALLEST)), 0, 1, 1, 1)
        self.right(" " * (4096 - len(SMALLEST)) + SMALLEST, 0, 1, 1, 1)
        self.right("#" * (4095 - len(SMALLEST)) + "\n" + SMALLEST, 0, 1, 1, 1)

    def test_all_statements_that_a_text_holds(self):
        text = "part a size 1 { " + "say 1;" * 678 + "} start a;"
        self.assertLessEqual(len(text), 4096)
        self.right(text, 0, 1, 1, 1)

    def test_a_whole_program_of_the_greatest_counts(self):
        row = " : x, y, z, w ; "
        text = "set s" + row + "set t" + row + "set u" + row + parts(10) + " start n0, n1, n2, n3 ;"
        self.right(text, 3, 10, 4, 64)


class BlanksTest(unittest.TestCase):
    def same(self, text, plain):
        self.assertEqual(of(text, shown()), of(plain, shown()))

    def test_blanks_at_both_ends_and_between(self):
        for blank in [" ", "\t", "\n", " \t\n\n\t ", "#\n", "# remark\n", "#}{;\n\n", "##x#\n \t#\n"]:
            self.same(blank + WORKED + blank, WORKED)
            self.same(WORKED.replace(" ", blank), WORKED)

    def test_a_remark_that_the_end_closes(self):
        for remark in ["#", "# start b ;", " \n#x#", "\n# 00 $ ?"]:
            self.same(SMALLEST + remark, SMALLEST)

    def test_a_remark_holds_any_bytes(self):
        data = [35] + [byte for byte in range(256) if byte != 10] + [10]
        self.same(data + list(SMALLEST.encode()), SMALLEST)
        self.same(list(SMALLEST.encode()) + data[:-1], SMALLEST)

    def test_a_remark_ends_before_the_next_row_only(self):
        self.assertEqual(told(load("#" + SMALLEST))[0], [0, 3, len(SMALLEST) + 1])
        self.assertEqual(told(load("# \t\r" + SMALLEST))[0], [0, 3, len(SMALLEST) + 4])

    def test_a_remark_parts_tokens(self):
        self.same("part#\na#\nsize#\n1{}start#\na;", SMALLEST)
        self.assertEqual(told(load("par#\nt a size 1 { } start a ;")), [[0, 3, 0]])

    def test_nothing_between_tokens(self):
        tight = (
            "set os:lin,win;part main size 2{call io;make draw+os;when os is win{call fix;}say 1;}part io size 5{say 2;}"
            "part drawlin size 7{call io;call font;}part drawwin size 8{call font;say 3;}part fix size 4{call deep;}"
            "part deep size 6{call io;}part font size 3{}part old size 9{call fix;}start main;"
        )
        self.same(tight, WORKED)

    def test_a_number_ends_where_a_letter_begins(self):
        self.assertEqual(told(load("part a size 1x { } start a ;")), [[0, 3, 13]])
        self.assertEqual(told(load("part a size 0x { } start a ;")), [[0, 7, 12]])
        self.assertEqual(told(load("part a size 1 { } start a ;5start")), [[0, 3, 27]])
        # Digits go on a name, so here are two tokens, not three.
        self.assertEqual(told(load("part a1size 1 { } start a1size ;")), [[0, 3, 12]])


class HeldTest(unittest.TestCase):
    def test_a_wrong_text_leaves_the_program(self):
        wrong = ["", "$", "part", SMALLEST + SMALLEST, "x" * 5000, "part b size 1 { call a ; } start b ;"]
        for text in wrong:
            found = told(load(WORKED), load(text), tree(), shown(), lost(1, 4))
            self.assertEqual(found[1][0], 0)
            self.assertEqual(found[2:], of(WORKED, tree(), shown(), lost(1, 4)))

    def test_a_wrong_text_leaves_that_there_is_none(self):
        self.assertEqual(told(load("part"), shown(), load(""), tree()), [[0, 3, 4], [-1], [0, 3, 0], [-1]])

    def test_a_right_text_takes_the_place_of_the_other(self):
        found = told(load(WORKED), load(SMALLEST), shown(), load(WORKED), tree())
        self.assertEqual(found[1:4:2], [[1, 0, 1, 1, 1], [1, 1, 8, 1, 2]])
        self.assertEqual(found[2], of(SMALLEST, shown())[0])
        self.assertEqual(found[4], of(WORKED, tree())[0])

    def test_counts_of_many_programs(self):
        for program in programs(200, 1):
            settings, parts, entries = program
            assignments = 1
            for name, words in settings:
                assignments *= len(words)
            wanted = [1, len(settings), len(parts), len(entries), assignments]
            self.assertEqual(told(load(form(program))), [wanted])


if __name__ == "__main__":
    unittest.main()
