"""tree: the closest part on which each part hangs."""

import unittest

from tests.helper import WORKED, form, model_tree, of, programs, tree


class TreeTest(unittest.TestCase):
    def tells(self, text, **closest):
        """The closest part, or None, of each part that is come to, all by name."""
        names = [row.split()[0] for row in text.split("part ")[1:]]
        answer = [len(closest)]
        for number, name in enumerate(names):
            if name in closest:
                answer += [number, -1 if closest[name] is None else names.index(closest[name])]
        self.assertEqual(of(text, tree()), [answer])

    def test_the_worked_text(self):
        self.tells(WORKED, main=None, io="main", drawlin="main", drawwin="main", fix="main", deep="fix", font="main")

    def test_a_part_by_itself(self):
        self.tells("part a size 1 { } start a ;", a=None)
        self.tells("part a size 1 { call a ; } start a ;", a=None)

    def test_a_row(self):
        text = "part d size 1 { } part b size 1 { call c ; } part a size 1 { call b ; } part c size 1 { call d ; } start a ;"
        self.tells(text, a=None, b="a", c="b", d="c")

    def test_a_way_around(self):
        text = (
            "part a size 1 { call b ; call c ; } part b size 1 { call d ; } part c size 1 { call d ; } "
            "part d size 1 { call e ; } part e size 1 { } start a ;"
        )
        self.tells(text, a=None, b="a", c="a", d="a", e="d")
        self.tells(text.replace("start a", "start b"), b=None, d="b", e="d")

    def test_ways_from_several_entries(self):
        text = (
            "part a size 1 { call c ; call e ; } part b size 1 { call c ; } part c size 1 { call d ; } "
            "part d size 1 { } part e size 1 { } start a, b ;"
        )
        self.tells(text, a=None, b=None, c=None, d="c", e="a")

    def test_an_entry_hangs_on_itself_alone(self):
        text = "part a size 1 { call b ; } part b size 1 { call c ; } part c size 1 { } start a, b ;"
        self.tells(text, a=None, b=None, c="b")
        text = "part a size 1 { call b ; } part b size 1 { call a ; } start b ;"
        self.tells(text, a="b", b=None)

    def test_parts_that_lead_back(self):
        text = (
            "part a size 1 { call b ; } part b size 1 { call c ; call d ; } part c size 1 { call a ; call d ; } "
            "part d size 1 { call b ; call c ; } start a ;"
        )
        self.tells(text, a=None, b="a", c="b", d="b")

    def test_parts_that_are_not_come_to(self):
        text = "part x size 1 { call a ; } part a size 1 { } part y size 1 { call x ; } part b size 1 { } start b ;"
        self.tells(text, b=None)
        self.tells(text.replace("start b", "start y, b"), y=None, x="y", a="x", b=None)

    def test_all_branches_count(self):
        text = (
            "set s : x, y ; part a size 1 { when s is x { when s is y { call b ; } } make c + s ; call d ; } "
            "part b size 1 { call d ; } part cx size 1 { call e ; } part cy size 1 { call e ; } part d size 1 { } "
            "part e size 1 { when s is y { make f ; } } part f size 1 { } start a ;"
        )
        self.tells(text, a=None, b="a", cx="a", cy="a", d="a", e="a", f="e")

    def test_ten_parts_in_a_row_backwards(self):
        parts = ["part n0 size 1 { }"] + ["part n%d size 1 { call n%d ; }" % (k, k - 1) for k in range(1, 10)]
        text = " ".join(parts) + " start n9 ;"
        wanted = {"n%d" % k: "n%d" % (k + 1) for k in range(9)}
        self.tells(text, n9=None, **wanted)

    def test_four_entries(self):
        text = (
            "part a size 1 { call e ; } part b size 1 { call e ; } part c size 1 { call f ; } part d size 1 { } "
            "part e size 1 { } part f size 1 { } start d, c, b, a ;"
        )
        self.tells(text, a=None, b=None, c=None, d=None, e=None, f="c")

    def test_many_programs_as_the_model(self):
        rows = 0
        for program in programs(250, 6):
            text = form(program)
            answer = of(text, tree())[0]
            with self.subTest(text):
                self.assertEqual(answer, model_tree(program))
            rows += len([holder for holder in answer[2::2] if holder >= 0])
        # The programs are worth trying only if much hangs on others in them.
        self.assertGreaterEqual(rows, 150)


if __name__ == "__main__":
    unittest.main()
