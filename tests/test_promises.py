"""The promises that the document draws together, each held over many programs.

What leads to what is told by the model; all else is asked of the program itself.
"""

import unittest

from tests.helper import chain, come_to, entry_numbers, form, lost, model_come_to, of, programs, tables, tree, ways_exist

# Each program, its one form and how many parts it has.
CASES = [(program, form(program), len(program[1])) for program in programs(150, 7)]


def all_lost(text, mode, count):
    """For each part the parts that are lost with it."""
    return [answer[2:] for answer in of(text, *[lost(mode, part) for part in range(count)])]


def rounds(table, entries):
    """How many parts the shortest way to each part that is come to has."""
    found = {entry: 1 for entry in entries}
    for more in range(len(table)):
        for part in list(found):
            for target in table[part]:
                found[target] = min(found.get(target, 99), found[part] + 1)
    return found


class PromiseTest(unittest.TestCase):
    def test_1_chains(self):
        for program, text, count in CASES:
            for mode in (0, 1):
                reached = come_to(text, mode, count)
                answers = of(text, *[chain(mode, part) for part in range(count)])
                shortest = [rounds(table, entry_numbers(program)) for table in tables(program, mode)]
                for part, answer in enumerate(answers):
                    self.assertEqual(answer[0], 1 if part in reached else 0, text)
                    if part not in reached:
                        self.assertEqual(answer, [0], text)
                        continue
                    assignment, length, way = answer[1], answer[2], answer[3:]
                    self.assertEqual(len(way), length, text)
                    self.assertIn(way[0], entry_numbers(program), text)
                    self.assertEqual(way[-1], part, text)
                    for one, following in zip(way, way[1:]):
                        self.assertIn(following, tables(program, mode)[assignment][one], text)
                    lengths = [found.get(part, 99) for found in shortest]
                    self.assertEqual(length, min(lengths), text)
                    self.assertEqual(assignment, lengths.index(length), text)

    def test_2_what_hangs_on_another_one_has_no_way_around(self):
        cases = 0
        for program, text, count in CASES:
            gone = all_lost(text, 1, count)
            for part in come_to(text, 1, count):
                for other in range(count):
                    if other != part:
                        self.assertEqual(part in gone[other], not ways_exist(program, part, other), text)
                        cases += part in gone[other]
        self.assertGreaterEqual(cases, 100)

    def test_3_what_a_part_hangs_on_hangs_on_one_another_in_a_row(self):
        longest = 0
        for program, text, count in CASES:
            gone = all_lost(text, 1, count)
            answer = of(text, tree())[0]
            closest = dict(zip(answer[1::2], answer[2::2]))
            for part in closest:
                row = []
                at = part
                while at >= 0:
                    self.assertNotIn(at, row, text)
                    row.append(at)
                    at = closest[at]
                self.assertEqual(sorted(row), [other for other in range(count) if part in gone[other]], text)
                for number, one in enumerate(row):
                    for other in row[number:]:
                        self.assertIn(one, gone[other], text)
                    for other in row[:number]:
                        self.assertNotIn(one, gone[other], text)
                longest = max(longest, len(row))
        self.assertGreaterEqual(longest, 4)

    def test_3_what_is_lost_lies_apart_or_within(self):
        kinds = {}
        for program, text, count in CASES:
            gone = [set(parts) for parts in all_lost(text, 1, count)]
            for one in gone:
                for other in gone:
                    self.assertTrue(not one & other or one <= other or other <= one, text)
                    kinds[not one & other, one < other] = True
        self.assertEqual(len(kinds), 4)

    def test_4_exactly_by_conditions_by_all_branches(self):
        smaller = [0, 0]
        for program, text, count in CASES:
            exactly, conditions, branches = [set(come_to(text, mode, count)) for mode in (2, 0, 1)]
            self.assertLessEqual(exactly, conditions, text)
            self.assertLessEqual(conditions, branches, text)
            self.assertEqual([exactly, conditions, branches], [model_come_to(program, mode) for mode in (2, 0, 1)], text)
            smaller[0] += exactly < conditions
            smaller[1] += conditions < branches
        self.assertGreaterEqual(min(smaller), 4)


if __name__ == "__main__":
    unittest.main()
