"""The promises that the document draws together, each held over many programs.

What leads to what is told by the model; all else is asked of the program itself.
"""

import unittest

from tests.helper import around, both, chain, come_to, entry_numbers, form, heavy, lost, model_come_to, of, programs
from tests.helper import shares, tables, taken_out, tree, ways_exist, webs

# Each program, its one form and how many parts it has.
CASES = [(program, form(program), len(program[1])) for program in programs(150, 7) + webs(60, 7)]


def all_lost(text, mode, count):
    """For each part the parts that are lost with it."""
    return [answer[2:] for answer in of(text, *[lost(mode, part) for part in range(count)])]


def closest_of(text):
    """A dict from each part that tree tells to the closest one, or -1."""
    answer = of(text, tree())[0]
    return dict(zip(answer[1::2], answer[2::2]))


def row_above(closest, part):
    """What a part hangs on, from itself on upwards."""
    row = [part]
    while closest[row[-1]] >= 0 and len(row) <= len(closest):
        row.append(closest[row[-1]])
    return row


def rounds(table, entries):
    """How many parts the shortest way to each part that is come to has."""
    found = {entry: 1 for entry in entries}
    for more in range(len(table)):
        for part in list(found):
            for target in table[part]:
                found[target] = min(found.get(target, 99), found[part] + 1)
    return found


class PromiseTest(unittest.TestCase):
    def test_1_chains(self):
        for program, text, count in CASES:
            for mode in (0, 1):
                reached = come_to(text, mode, count)
                answers = of(text, *[chain(mode, part) for part in range(count)])
                shortest = [rounds(table, entry_numbers(program)) for table in tables(program, mode)]
                for part, answer in enumerate(answers):
                    self.assertEqual(answer[0], 1 if part in reached else 0, text)
                    if part not in reached:
                        self.assertEqual(answer, [0], text)
                        continue
                    assignment, length, way = answer[1], answer[2], answer[3:]
                    self.assertEqual(len(way), length, text)
                    self.assertIn(way[0], entry_numbers(program), text)
                    self.assertEqual(way[-1], part, text)
                    for one, following in zip(way, way[1:]):
                        self.assertIn(following, tables(program, mode)[assignment][one], text)
                    lengths = [found.get(part, 99) for found in shortest]
                    self.assertEqual(length, min(lengths), text)
                    self.assertEqual(assignment, lengths.index(length), text)

    def test_2_what_hangs_on_another_one_has_no_way_around(self):
        cases = 0
        for program, text, count in CASES:
            gone = all_lost(text, 1, count)
            for part in come_to(text, 1, count):
                for other in range(count):
                    if other != part:
                        self.assertEqual(part in gone[other], not ways_exist(program, part, other), text)
                        cases += part in gone[other]
        self.assertGreaterEqual(cases, 100)

    def test_2_around_lost_and_tree_agree(self):
        kinds = {}
        for program, text, count in CASES:
            gone = all_lost(text, 1, count)
            closest = closest_of(text)
            for part in come_to(text, 1, count):
                ways = of(text, *[around(other, part) for other in range(count)])
                for other in range(count):
                    hangs = part in gone[other]
                    self.assertEqual(ways[other][0], 0 if hangs else 1, text)
                    self.assertEqual(hangs, other in row_above(closest, part), text)
                    kinds[hangs, other == part] = kinds.get((hangs, other == part), 0) + 1
        self.assertEqual(sorted(kinds), [(False, False), (True, False), (True, True)])
        self.assertGreaterEqual(min(kinds.values()), 300)

    def test_2_a_way_around_is_a_chain_and_none_is_shorter(self):
        for program, text, count in CASES:
            for other in range(count):
                table, entries = taken_out(program, other)
                shortest = rounds(table, entries)
                for part, answer in enumerate(of(text, *[around(other, part) for part in range(count)])):
                    if part not in shortest:
                        self.assertEqual(answer, [0], text)
                        continue
                    way = answer[2:]
                    self.assertEqual(answer[:2], [1, shortest[part]], text)
                    self.assertEqual(len(way), shortest[part], text)
                    self.assertIn(way[0], entries, text)
                    self.assertEqual(way[-1], part, text)
                    self.assertNotIn(other, way, text)
                    self.assertTrue(all(following in table[one] for one, following in zip(way, way[1:])), text)

    def test_3_what_a_part_hangs_on_hangs_on_one_another_in_a_row(self):
        longest = 0
        for program, text, count in CASES:
            gone = all_lost(text, 1, count)
            closest = closest_of(text)
            for part in closest:
                row = row_above(closest, part)
                self.assertEqual(sorted(row), [other for other in range(count) if part in gone[other]], text)
                for number, one in enumerate(row):
                    for other in row[number:]:
                        self.assertIn(one, gone[other], text)
                    for other in row[:number]:
                        self.assertNotIn(one, gone[other], text)
                longest = max(longest, len(row))
        self.assertGreaterEqual(longest, 4)

    def test_3_what_is_lost_lies_apart_or_within(self):
        kinds = {}
        for program, text, count in CASES:
            gone = [set(parts) for parts in all_lost(text, 1, count)]
            for one in gone:
                for other in gone:
                    self.assertTrue(not one & other or one <= other or other <= one, text)
                    kinds[not one & other, one < other] = True
        self.assertEqual(len(kinds), 4)

    def test_3_both_tells_of_what_lies_apart_or_within(self):
        kinds = {}
        for program, text, count in CASES:
            gone = [set(parts) for parts in all_lost(text, 1, count)]
            pairs = [(one, other) for one in range(count) for other in range(count)]
            for (one, other), answer in zip(pairs, of(text, *[both(1, *pair) for pair in pairs])):
                apart = not gone[one] & gone[other]
                only = sum(program[1][part][1] for part in answer[4:])
                self.assertEqual(answer[0] - only, sum(answer[1:3]) if apart else max(answer[1:3]), text)
                self.assertFalse(set(answer[4:]) & (gone[one] | gone[other]), text)
                # What lies within another one adds nothing to what is lost with that.
                self.assertTrue(apart or not answer[4:], text)
                kinds[apart, only > 0] = kinds.get((apart, only > 0), 0) + 1
        self.assertGreaterEqual(min(kinds[True, True], kinds[True, False], kinds[False, False]), 50)

    def test_4_by_shares_and_heavy(self):
        for program, text, count in CASES:
            sizes = [answer[0] for answer in of(text, shares(2), shares(0), shares(1))]
            self.assertEqual(sizes, sorted(sizes), text)
            exactly, conditions, branches = [set(answer[1::2]) for answer in of(text, heavy(2), heavy(0), heavy(1))]
            self.assertLessEqual(exactly, conditions, text)
            self.assertLessEqual(conditions, branches, text)

    def test_5_parts_that_hang_on_no_other_one_share_all_out(self):
        most = 0
        for program, text, count in CASES:
            closest = closest_of(text)
            roots = [part for part in closest if closest[part] < 0]
            answer, ranked = of(text, shares(1), heavy(1))
            whole, each = answer[0], answer[1:]
            self.assertEqual(sum(each[part] for part in roots), whole, text)
            gone = all_lost(text, 1, count)
            self.assertEqual(sorted(part for root in roots for part in gone[root]), sorted(closest), text)
            weights = dict(zip(ranked[1::2], ranked[2::2]))
            self.assertEqual(sorted(weights), sorted(closest), text)
            self.assertEqual(weights, {part: each[part] for part in closest}, text)
            # A part weighs more than what hangs on it, so it stands before that.
            order = list(weights)
            for part in closest:
                if closest[part] >= 0:
                    self.assertLess(order.index(closest[part]), order.index(part), text)
            most = max(most, len(roots))
        self.assertGreaterEqual(most, 5)

    def test_4_exactly_by_conditions_by_all_branches(self):
        smaller = [0, 0]
        for program, text, count in CASES:
            exactly, conditions, branches = [set(come_to(text, mode, count)) for mode in (2, 0, 1)]
            self.assertLessEqual(exactly, conditions, text)
            self.assertLessEqual(conditions, branches, text)
            self.assertEqual([exactly, conditions, branches], [model_come_to(program, mode) for mode in (2, 0, 1)], text)
            smaller[0] += exactly < conditions
            smaller[1] += conditions < branches
        self.assertGreaterEqual(min(smaller), 4)


if __name__ == "__main__":
    unittest.main()
