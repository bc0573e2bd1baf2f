"""load: texts that tell no program."""

import unittest

from tests.helper import load, told

PART = "part a size 1 { } "
START = "start a ;"
SETTINGS = "set s : x ; set t : x ; set u : x ; "
NOT_NAMES = ["set", "part", "size", "start", "say", "call", "make", "when", "is"]


class FaultTest(unittest.TestCase):
    def fault(self, code, marked):
        """The text has a fault of this code at the ^, which is not of the text."""
        place = marked.index("^")
        text = marked.replace("^", "")
        self.assertEqual(len(marked), len(text) + 1)
        with self.subTest(marked[:200]):
            self.assertEqual(told(load(text)), [[0, code, place]])

    def in_part(self, code, marked):
        """Likewise, of statements in a part of a program that is right but for them."""
        self.fault(code, "set s : x, y ; part a size 1 { %s } part b size 1 { } start a ;" % marked)


class TooLongTest(FaultTest):
    def test_a_text_of_4097_bytes_and_more(self):
        right = PART + START
        for count in [4097, 4098, 5000, 8192]:
            for text in [right.ljust(count), " " * count, "$" * count, "00".ljust(count, "x"), "#" * count]:
                self.assertEqual(told(load(text)), [[0, 1, 4096]])

    def test_4096_bytes_are_not_too_many(self):
        self.assertEqual(told(load(" " * 4096)), [[0, 3, 4096]])
        self.assertEqual(told(load("#" * 4096)), [[0, 3, 4096]])
        self.assertEqual(told(load("$" * 4096)), [[0, 2, 0]])


class NoTokenTest(FaultTest):
    def test_every_byte_that_begins_no_token(self):
        begins = [32, 9, 10, 35, 43, 44, 58, 59, 123, 125] + list(range(48, 58)) + list(range(65, 91))
        begins += list(range(97, 123))
        front = list(PART.encode())
        for byte in range(256):
            answer = told(load(front + [byte] + list(START.encode())))[0]
            if byte in begins:
                self.assertNotEqual(answer[:2], [0, 2], byte)
            else:
                self.assertEqual(answer, [0, 2, len(front)], byte)

    def test_bytes_within_and_behind_names_and_numbers(self):
        self.fault(2, "part a^_b size 1 { } start a ;")
        self.fault(2, "part ^_a size 1 { } start a ;")
        self.fault(2, "part a size 1^.5 { } start a ;")
        self.fault(2, "part a size ^-1 { } start a ;")
        self.fault(2, PART + START + " ^$")
        self.fault(2, "^\r" + PART + START)
        self.fault(2, PART + START + "^\x00")

    def test_a_name_of_seventeen_bytes(self):
        for name in ["a" * 17, "a" + "0" * 16, "startstartstarts1", "a" * 200]:
            self.fault(2, "part ^%s size 1 { } start a ;" % name)
            self.fault(2, PART + START + "^" + name)
            self.fault(2, PART + START + " 5^" + name)

    def test_a_name_of_sixteen_bytes_is_none(self):
        self.fault(3, PART + START + " ^" + "a" * 16)

    def test_a_number_too_great(self):
        for number in ["1000000001", "1000000010", "2000000000", "10000000000", "9" * 30, "9" * 4000]:
            self.fault(2, "part a size ^%s { } start a ;" % number)
        self.fault(7, "part a size ^1000000000 { } start a ;")
        self.fault(7, "part a size ^999999999 { } start a ;")

    def test_a_needless_zero(self):
        for number in ["00", "01", "007", "0000000000", "01000000000", "0" * 4000]:
            self.fault(2, "part a size ^%s { } start a ;" % number)
            self.in_part(2, "say ^%s ;" % number)
            self.fault(2, PART + START + " ^" + number)
            self.fault(2, "part a size 1 { } start ^%sa ;" % number)

    def test_a_zero_by_itself_is_none(self):
        self.fault(3, PART + START + " ^0")
        self.fault(7, "part a size ^0 { } start a ;")
        self.fault(7, "part a size ^0a { } start a ;")

    def test_it_is_the_first_one_and_before_all_that_come_later(self):
        self.fault(2, "start } 0 ; ^$ 00")
        self.fault(2, "set set : ; part a a ^00 $")
        self.fault(2, "part a size 100 { call b ; } start b, b ; ^" + "x" * 17)
        self.fault(2, SETTINGS + "set v : x ; " + PART + START + "^/")

    def test_in_a_remark_there_is_none(self):
        self.fault(3, "# $ 00 \n^;")


class NotAllowedTest(FaultTest):
    def test_no_text(self):
        self.assertEqual(told(load("")), [[0, 3, 0]])
        for text in [" ", "\n", "#", "# \n", " \t# $"]:
            self.assertEqual(told(load(text)), [[0, 3, len(text)]])

    def test_every_beginning_of_a_program_ends_too_early(self):
        tokens = (
            "set s : x , y ; set t : x ; part a size 9 { say 1 ; call a ; make s + b + a ; "
            "when s is x { when t is x { } say 2 ; } } part b size 3 { } start a , b ;"
        ).split()
        self.assertEqual(told(load(" ".join(tokens)))[0][0], 1)
        for count in range(len(tokens)):
            text = " ".join(tokens[:count])
            self.fault(3, text + "^")
            self.fault(3, text + " # ..\n ^")

    def test_every_token_that_is_not_allowed(self):
        # Each row: what stands before, all tokens that may follow there.
        rows = [
            ("", ["set", "part"]),
            ("set", ["name"]),
            ("set s", [":"]),
            ("set s :", ["name"]),
            ("set s : x", [",", ";"]),
            ("set s : x ,", ["name"]),
            ("set s : x ;", ["set", "part"]),
            ("part", ["name"]),
            ("part a", ["size"]),
            ("part a size", ["5"]),
            ("part a size 1", ["{"]),
            ("part a size 1 {", ["say", "call", "make", "when", "}"]),
            ("part a size 1 { say", ["5"]),
            ("part a size 1 { say 1", [";"]),
            ("part a size 1 { say 1 ;", ["say", "call", "make", "when", "}"]),
            ("part a size 1 { call", ["name"]),
            ("part a size 1 { call a", [";"]),
            ("part a size 1 { make", ["name"]),
            ("part a size 1 { make a", ["+", ";"]),
            ("part a size 1 { make a +", ["name"]),
            ("part a size 1 { make a + b + c", ["+", ";"]),
            ("set s : name ; part a size 1 { when s", ["is"]),
            ("set s : name ; part a size 1 { when s is", ["name"]),
            ("set name : x ; part a size 1 { when", ["name"]),
            ("set s : x ; part a size 1 { when s is x", ["{"]),
            ("set s : x ; part a size 1 { when s is x {", ["say", "call", "make", "when", "}"]),
            ("set s : x ; part a size 1 { when s is x { }", ["say", "call", "make", "when", "}"]),
            ("part a size 1 { }", ["part", "start"]),
            ("part name size 1 { } start", ["name"]),
            ("part a size 1 { } start a", [",", ";"]),
            ("part a size 1 { } part name size 1 { } start a ,", ["name"]),
            ("part a size 1 { } start a ;", []),
        ]
        tokens = NOT_NAMES + ["name", "5"] + list("+,:;{}")
        for front, allowed in rows:
            for token in tokens:
                text = (front + " ^" + token).lstrip()
                if token not in allowed:
                    self.fault(3, text)
                elif text.replace("^", "") != PART + START:
                    self.fault(3, text.replace("^", "") + " ^")

    def test_what_is_no_name(self):
        for word in NOT_NAMES:
            self.fault(3, "set ^%s : x ; " % word + PART + START)
            self.fault(3, "set s : ^%s ; " % word + PART + START)
            self.fault(3, "set s : x, ^%s ; " % word + PART + START)
            self.fault(3, "part ^%s size 1 { } start a ;" % word)
            self.fault(3, PART + "start ^%s ;" % word)
            self.fault(3, PART + "start a, ^%s ;" % word)
            self.in_part(3, "call ^%s ;" % word)
            self.in_part(3, "make ^%s ;" % word)
            self.in_part(3, "make a + b + ^%s ;" % word)
            self.in_part(3, "when ^%s is x { }" % word)
            self.in_part(3, "when s is ^%s { }" % word)

    def test_settings_behind_parts_and_starts_before_them(self):
        self.fault(3, PART + "^set s : x ; " + START)
        self.fault(3, "^start a ; " + PART)
        self.fault(3, "set s : x ; ^start a ; " + PART)
        self.fault(3, PART + START + " ^part b size 1 { }")
        self.fault(3, PART + START + " ^;")

    def test_missing_and_doubled_signs(self):
        self.fault(3, "set s : x ^y ; " + PART + START)
        self.fault(3, "set s : x, ^, y ; " + PART + START)
        self.fault(3, "set s : ^; " + PART + START)
        self.fault(3, PART + "start ^;")
        self.fault(3, PART + "start a, ^;")
        self.in_part(3, "make a ^b ;")
        self.in_part(3, "make a, b ;".replace(",", "^,"))
        self.in_part(3, "say 1 ; ^;")
        self.in_part(3, "^{ }")
        self.in_part(3, "say 1 ^}")
        self.in_part(3, "when s is x { } ^;")


class TooManyTest(FaultTest):
    def test_a_fourth_setting(self):
        self.fault(4, SETTINGS + "^set v : x ; " + PART + START)
        self.fault(4, SETTINGS + "^set s")
        self.fault(4, SETTINGS + "^set ;")

    def test_a_fifth_word(self):
        self.fault(4, "set s : x, y, z, w, ^v ; " + PART + START)
        self.fault(4, "set s : x, y, z, w, ^x ; " + PART + START)
        self.fault(3, "set s : x, y, z, w, ^; " + PART + START)
        self.fault(3, "set s : x, y, z, w, ^is ; " + PART + START)
        self.fault(4, "set t : x, y, z, w ; set s : x, y, z, w, ^v ; " + PART + START)

    def test_an_eleventh_part(self):
        ten = " ".join("part n%d size 1 { }" % number for number in range(10))
        self.fault(4, ten + " ^part n10 size 1 { } start n0 ;")
        self.fault(4, ten + " ^part n0")
        self.fault(4, ten + " ^part part")
        self.fault(3, ten + " ^set s : x ;")

    def test_a_fourth_piece(self):
        self.in_part(4, "make a + b + c + ^d ;")
        self.in_part(4, "make a + a + a + ^a ;")
        self.in_part(4, "make s + s + s + ^s + s ;")
        self.in_part(3, "make a + b + c + ^; ")
        self.in_part(3, "make a + b + c + ^say ;")

    def test_a_fifth_entry(self):
        five = " ".join("part n%d size 1 { }" % number for number in range(5))
        self.fault(4, five + " start n0, n1, n2, n3, ^n4 ;")
        self.fault(4, five + " start n0, n1, n2, n3, ^n0 ;")
        self.fault(4, five + " start n0, n1, n2, n3, ^x ;")
        self.fault(3, five + " start n0, n1, n2, n3, ^; ")

    def test_a_when_that_stands_in_three_others(self):
        three = "when s is x { when s is y { when s is x { "
        self.in_part(4, three + "^when s is x { } } } }")
        self.in_part(4, three + "say 1 ; call a ; ^when s is x { } } } }")
        self.in_part(4, three + "^when t is x { } } } }")
        self.in_part(4, three + "^when ;")
        self.in_part(4, three + "} } } " + three + "^when s is x { } } } }")
        self.in_part(4, "when s is x { when s is x { when s is x { } when s is x { ^when")


class ToldBeforeTest(FaultTest):
    def test_a_setting_told_before(self):
        self.fault(5, "set s : x ; set ^s : y ; " + PART + START)
        self.fault(5, "set s : x ; set t : x ; set ^s : y ; " + PART + START)
        self.fault(5, "set s : x ; set t : x ; set ^t x")

    def test_a_word_told_before_in_its_setting(self):
        self.fault(5, "set s : x, ^x ; " + PART + START)
        self.fault(5, "set s : x, y, ^x ; " + PART + START)
        self.fault(5, "set s : x, y, z, ^y ; " + PART + START)
        self.fault(5, "set t : x ; set s : y, x, ^y ; " + PART + START)

    def test_a_part_told_before(self):
        self.fault(5, PART + "part ^a size 1 { } " + START)
        self.fault(5, PART + "part b size 1 { } part ^a size 1 { } " + START)
        self.fault(5, PART + "part b size 1 { } part ^b { ")

    def test_a_part_called_like_a_setting(self):
        self.fault(5, "set s : x ; part ^s size 1 { } start s ;")
        self.fault(5, "set s : x ; set t : x ; " + PART + "part ^t size 1 { } start t ;")

    def test_an_entry_told_before(self):
        two = PART + "part b size 1 { } "
        self.fault(6, two + "start a, ^a ;")
        self.fault(6, two + "start a, b, ^a ;")
        self.fault(6, two + "start a, b, ^b")


class OutOfRangeTest(FaultTest):
    def test_sizes(self):
        for number in ["0", "100", "101", "999", "1000000000"]:
            self.fault(7, "part a size ^%s { } start a ;" % number)
            self.fault(7, PART + "part b size ^%s ;" % number)

    def test_amounts(self):
        for number in ["0", "100", "101", "999", "1000000000"]:
            self.in_part(7, "say ^%s ;" % number)
            self.in_part(7, "when s is x { say 99 ; say ^%s } }" % number)


class UnknownTest(FaultTest):
    def test_no_setting(self):
        for name in ["t", "x", "a", "b", "S", "sx"]:
            self.in_part(8, "when ^%s is x { }" % name)
            self.in_part(8, "when s is x { when ^%s ; }" % name)
        self.fault(8, "part a size 1 { when ^s is x { } } start a ;")

    def test_no_word_of_the_setting(self):
        for name in ["z", "s", "a", "X", "xy"]:
            self.in_part(8, "when s is ^%s { }" % name)
            self.in_part(8, "when s is y { when s is ^%s ; }" % name)
        two = "set s : x, y ; set t : z ; part a size 1 { when %s { } } start a ;"
        self.fault(8, two % "s is ^z")
        self.fault(8, two % "t is ^x")

    def test_no_part_behind_start(self):
        for name in ["c", "s", "x", "A", "ab"]:
            self.fault(8, "set s : x ; " + PART + "part b size 1 { } start ^%s ;" % name)
            self.fault(8, "set s : x ; " + PART + "part b size 1 { } start b, ^%s, a ;" % name)

    def test_no_part_behind_call(self):
        for name in ["c", "s", "x", "A", "ab"]:
            self.in_part(9, "call ^%s ;" % name)
            self.in_part(9, "call a ; call b ; when s is x { say 1 ; call ^%s ; } call zz ;" % name)
            self.in_part(9, "make zz ; call ^%s ; call yy ;" % name)
        self.fault(9, PART + "part b size 1 { call ^c ; } part d size 1 { call e ; } start d ;")

    def test_any_name_may_be_a_piece(self):
        text = "set s : x ; part a size 1 { make zz ; make s ; make x + nowhere ; } start a ;"
        self.assertEqual(told(load(text)), [[1, 1, 1, 1, 1]])


class TwoFaultsTest(FaultTest):
    def test_the_leftmost_of_3_to_8(self):
        self.fault(5, "set s : x, ^x 5")
        self.fault(3, "set s : x ^5 ; set s : x, x ;")
        self.fault(7, "part a size ^0 ; part a")
        self.fault(5, "set s : x ; part ^s size 0 { }")
        self.fault(8, "part a size 1 { when ^s ; say 0 ; } start b ;")
        self.fault(7, "part a size 1 { say ^0 ; when s is x { } } start b ;")
        self.fault(4, "part a size 1 { make a + b + c + ^d when s is } start b")
        self.fault(6, PART + "start a, ^a, b ;")
        self.fault(8, PART + "start ^b, a, a ;")
        self.fault(4, SETTINGS + "^set s : x, x ; part part")
        self.fault(3, PART + "start a ^a, b ;")

    def test_9_comes_behind_all_others(self):
        self.fault(3, "part a size 1 { call b ; } start a ^")
        self.fault(3, "part a size 1 { call b ; } start a ; ^start")
        self.fault(8, "part a size 1 { call b ; } start ^c ;")
        self.fault(6, "part a size 1 { call b ; } start a, ^a ;")
        self.fault(5, "part a size 1 { call b ; } part ^a size 1 { } start a ;")
        self.fault(7, "part a size 1 { call b ; say ^100 ; } start a ;")
        self.fault(3, "part a size 1 { call b ^} start a ;")

    def test_2_comes_before_all_but_1(self):
        self.fault(2, "part a size 1 { call b ; } start a ; ^00")
        self.fault(2, "} } ^$")
        text = ("} 00 $ " + PART).ljust(4097)
        self.assertEqual(told(load(text)), [[0, 1, 4096]])


if __name__ == "__main__":
    unittest.main()
