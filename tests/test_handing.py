"""Points 2 and 3: what is handed in stays as it was, what is told is the asker's own."""

import unittest
from copy import deepcopy

from archrow.arcs import do_cross, first_fault, is_set, row_of
from archrow.counted import by_size, count_sets, count_with, how_many_begin, next_set, set_at, set_number
from archrow.desk import Desk
from archrow.errors import NoGap, NoNumber, NoPlace, NoRow, NoSet, NoShape, NoStretch, NoText, NoTie, NoWeights
from archrow.joined import row_turned, rows_joined, set_turned, sets_joined
from archrow.kept import always_tied, how_many_most, most_of, most_ties, paper_shows, table_of
from archrow.kinds import best_kinds, most_of_kinds, most_with, row_of_kinds
from archrow.shapes import count_shape, depth_of, depths_of, nest_of, shape_of, stretches_of
from archrow.texts import brackets, read_brackets, read_row, show_row
from archrow.weights import greatest_weights, heaviest, heaviest_of, weights_show
from archrow.whole import count_whole, fewest_cuts, longest_whole, whole_set
from plainly import blocks_row, large_row

ROW = (6, [(0, 1), (0, 5), (1, 2), (2, 4), (3, 4)])
FULL = (4, [(0, 1), (0, 3), (1, 2), (2, 3)])
KINDS = [1, 2, 1, 3, 2, 2]
PAIRS = [(2, 1), (1, 2), (3, 3), (7, 1)]

TRUTHS = (do_cross, is_set, paper_shows, weights_show)

ASKED = [
    (row_of, [6, [(5, 0), (1, 0), (0, 1), (2, 1), (4, 3), (2, 4)]]),
    (row_of, [6, [(0, 1), (0, 5)]]),
    (row_of, [0, []]),
    (do_cross, [(0, 2), (1, 3)]),
    (is_set, [ROW, [(0, 1), (2, 4)]]),
    (is_set, [ROW, [(3, 4), (0, 1), (0, 1)]]),
    (first_fault, [ROW, [(0, 5), (1, 2), (3, 4)]]),
    (first_fault, [ROW, [(0, 1), (1, 2), (9, -9)]]),
    (most_ties, [ROW]),
    (most_ties, [(0, [])]),
    (most_of, [ROW, 1, 5]),
    (most_of, [ROW, 3, 3]),
    (table_of, [ROW]),
    (table_of, [(0, [])]),
    (paper_shows, [ROW, table_of(ROW)]),
    (paper_shows, [ROW, [[0, 1], [], [5]]]),
    (always_tied, [ROW]),
    (always_tied, [(3, [(0, 1), (1, 2)])]),
    (always_tied, [(0, [])]),
    (how_many_most, [ROW]),
    (heaviest, [ROW, [3, -1, 0, 2, 2]]),
    (heaviest, [ROW, [-3, -1, 0, -2, -2]]),
    (heaviest, [(0, []), []]),
    (heaviest_of, [ROW, [3, -1, 0, 2, 2], 0]),
    (heaviest_of, [ROW, [3, -1, 0, 2, 2], 2]),
    (heaviest_of, [ROW, [3, -1, 0, 2, 2], 9]),
    (heaviest_of, [(0, []), [], 0]),
    (greatest_weights, [ROW, [3, -1, 0, 2, 2]]),
    (greatest_weights, [(0, []), []]),
    (weights_show, [ROW, [1, 1, 1, 1, 1], table_of(ROW)]),
    (weights_show, [ROW, [3, -1, 0, 2, 2], [[0, 1], [], [5]]]),
    (count_sets, [ROW]),
    (by_size, [ROW]),
    (by_size, [(0, [])]),
    (count_with, [ROW, (2, 4)]),
    (set_number, [ROW, [(0, 5), (1, 2), (3, 4)]]),
    (set_number, [ROW, []]),
    (set_at, [ROW, 4]),
    (set_at, [ROW, 0]),
    (set_at, [(0, []), 0]),
    (next_set, [ROW, []]),
    (next_set, [ROW, [(0, 1)]]),
    (next_set, [ROW, [(0, 5), (1, 2), (3, 4)]]),
    (next_set, [ROW, [(3, 4)]]),
    (how_many_begin, [ROW, [(0, 5)]]),
    (how_many_begin, [ROW, []]),
    (row_of_kinds, [KINDS, PAIRS, 0]),
    (row_of_kinds, [KINDS, PAIRS, 3]),
    (row_of_kinds, [[], [], 0]),
    (most_of_kinds, [KINDS, PAIRS, 1]),
    (most_of_kinds, [[], [], 1]),
    (best_kinds, [KINDS, PAIRS, 0, 3]),
    (best_kinds, [KINDS, PAIRS, 9, 0]),
    (most_with, [KINDS, PAIRS, 0, 0, 1]),
    (most_with, [KINDS, PAIRS, 0, 6, 1]),
    (whole_set, [ROW]),
    (whole_set, [FULL]),
    (whole_set, [(0, [])]),
    (whole_set, [(1, [])]),
    (count_whole, [ROW]),
    (count_whole, [FULL]),
    (count_whole, [(1, [])]),
    (longest_whole, [ROW]),
    (longest_whole, [(3, [])]),
    (fewest_cuts, [ROW]),
    (fewest_cuts, [(3, [(1, 2)])]),
    (fewest_cuts, [(0, [])]),
    (nest_of, [ROW, [(0, 5), (1, 2), (3, 4)]]),
    (nest_of, [ROW, []]),
    (depths_of, [ROW, [(0, 5), (1, 2), (3, 4)]]),
    (depths_of, [ROW, []]),
    (depth_of, [ROW, [(0, 5), (1, 2), (3, 4)]]),
    (depth_of, [ROW, []]),
    (shape_of, [ROW, [(0, 5), (1, 2), (3, 4)]]),
    (shape_of, [ROW, []]),
    (count_shape, [ROW, "()()"]),
    (count_shape, [ROW, ""]),
    (count_shape, [ROW, "()()()()"]),
    (stretches_of, [ROW, [(0, 1), (3, 4)]]),
    (stretches_of, [ROW, []]),
    (rows_joined, [ROW, FULL]),
    (rows_joined, [ROW, (0, [])]),
    (rows_joined, [(0, []), ROW]),
    (rows_joined, [(0, []), (0, [])]),
    (sets_joined, [ROW, FULL, [(0, 1), (3, 4)], [(0, 3), (1, 2)]]),
    (sets_joined, [ROW, FULL, [(0, 1)], []]),
    (sets_joined, [ROW, FULL, [], [(0, 3)]]),
    (sets_joined, [(0, []), (0, []), [], []]),
    (row_turned, [ROW]),
    (row_turned, [(2, [(0, 1)])]),
    (row_turned, [(0, [])]),
    (set_turned, [ROW, [(0, 1), (3, 4)]]),
    (set_turned, [ROW, []]),
    (brackets, [6, [(0, 5), (1, 2), (3, 4)]]),
    (brackets, [0, []]),
    (read_brackets, ["(()())"]),
    (read_brackets, [""]),
    (show_row, [ROW]),
    (show_row, [(0, [])]),
    (read_row, ["6: 0-5 1-2"]),
    (read_row, ["0:"]),
]

REFUSED = [
    (NoRow, row_of, [-1, [(1, 0), (0, 1)]]),
    (NoRow, row_of, [3, [(2, 1), (1, 0), (0, 3)]]),
    (NoRow, row_of, [3, [(2, 1), (1, 1)]]),
    (NoTie, do_cross, [(2, 1), (0, 3)]),
    (NoTie, do_cross, [(0, 3), (-1, 1)]),
    (NoStretch, most_of, [ROW, 2, 1]),
    (NoStretch, most_of, [ROW, 0, 7]),
    (NoWeights, heaviest, [ROW, [1, 2]]),
    (NoWeights, heaviest_of, [ROW, [1, 2, 3, 4, 5, 6], -1]),
    (NoNumber, heaviest_of, [ROW, [1, 2, 3, 4, 5], -1]),
    (NoWeights, greatest_weights, [ROW, []]),
    (NoWeights, weights_show, [ROW, [1], [[0]]]),
    (NoTie, count_with, [ROW, (1, 0)]),
    (NoSet, set_number, [ROW, [(2, 4), (0, 1)]]),
    (NoNumber, set_at, [ROW, -1]),
    (NoNumber, set_at, [ROW, 10 ** 40]),
    (NoSet, next_set, [ROW, [(0, 1), (1, 2)]]),
    (NoSet, how_many_begin, [ROW, [(5, 0)]]),
    (NoGap, row_of_kinds, [KINDS, PAIRS, -1]),
    (NoGap, most_of_kinds, [KINDS, PAIRS, -1]),
    (NoGap, best_kinds, [KINDS, PAIRS, -1, -1]),
    (NoPlace, best_kinds, [KINDS, PAIRS, 0, 6]),
    (NoGap, most_with, [KINDS, PAIRS, -1, 9, 1]),
    (NoPlace, most_with, [KINDS, PAIRS, 0, 7, 1]),
    (NoSet, nest_of, [ROW, [(3, 4), (0, 1)]]),
    (NoSet, depths_of, [ROW, [(0, 1), (1, 2)]]),
    (NoSet, depth_of, [ROW, [(0, 1), (0, 1)]]),
    (NoSet, shape_of, [ROW, [(1, 2), (2, 4)]]),
    (NoSet, stretches_of, [ROW, [(4, 3)]]),
    (NoShape, count_shape, [ROW, "())"]),
    (NoSet, sets_joined, [ROW, FULL, [(3, 4), (0, 1)], [(0, 1)]]),
    (NoSet, sets_joined, [ROW, FULL, [(0, 1)], [(2, 3), (0, 1)]]),
    (NoSet, set_turned, [ROW, [(3, 4), (0, 1)]]),
    (NoRow, brackets, [-1, [(3, 4), (0, 1)]]),
    (NoSet, brackets, [6, [(3, 4), (0, 1)]]),
    (NoText, read_brackets, ["(()"]),
    (NoText, read_row, ["6: 1-2 0-5"]),
    (NoRow, read_row, ["6: 1-6"]),
]


def lists_in(thing):
    """Every list in a thing that was told or handed in, itself among them."""
    found = [thing] if isinstance(thing, list) else []
    if isinstance(thing, (list, tuple)):
        for part in thing:
            found += lists_in(part)
    return found


def spoil(thing):
    """Change every list in a thing."""
    for held in lists_in(thing):
        held.reverse()
        held.append((7, 7))


class HandedInTest(unittest.TestCase):
    def test_what_is_handed_in_stays_as_it_was(self):
        for deed, given in ASKED:
            before = deepcopy(given)
            deed(*given)
            self.assertEqual(given, before, deed.__name__)

    def test_what_is_refused_changes_nothing(self):
        for wrong, deed, given in REFUSED:
            before = deepcopy(given)
            with self.assertRaises(wrong) as caught:
                deed(*given)
            self.assertIs(type(caught.exception), wrong)
            self.assertEqual(given, before, deed.__name__)
        for deed, given in ASKED:
            first = deed(*given)
            for wrong, other, wrongly in REFUSED:
                with self.assertRaises(wrong):
                    other(*wrongly)
            self.assertEqual(deed(*given), first)

    def test_what_is_handed_in_may_be_changed_later(self):
        for deed, given in ASKED:
            handed = deepcopy(given)
            told = deed(*handed)
            before = deepcopy(told)
            spoil(handed)
            self.assertEqual(told, before, deed.__name__)
            self.assertEqual(deed(*deepcopy(given)), before, deed.__name__)


class ToldTest(unittest.TestCase):
    def test_every_list_is_a_new_one(self):
        for deed, given in ASKED:
            lists = lists_in(deed(*given)) + lists_in(deed(*given)) + lists_in(given)
            self.assertEqual(len({id(held) for held in lists}), len(lists), deed.__name__)

    def test_a_told_list_that_is_changed_changes_nothing(self):
        for deed, given in ASKED:
            before = deepcopy(given)
            told = deed(*given)
            kept = deepcopy(told)
            spoil(told)
            self.assertEqual(given, before, deed.__name__)
            self.assertEqual(deed(*given), kept, deed.__name__)

    def test_a_told_list_stays_whatever_is_asked_later(self):
        told = [deed(*given) for deed, given in ASKED]
        before = deepcopy(told)
        for deed, given in ASKED[::-1]:
            spoil(deed(*given))
        self.assertEqual(told, before)

    def test_numbers_are_no_truths(self):
        for deed, given in ASKED:
            if deed not in TRUTHS:
                self.assertNotIn(bool, kinds_in(deed(*given)), deed.__name__)
        for deed, given in ASKED:
            if deed in TRUTHS:
                self.assertIs(type(deed(*given)), bool, deed.__name__)

    def test_a_told_thing_can_be_handed_in(self):
        row = row_of(6, [(5, 0), (1, 0), (2, 1), (4, 3), (2, 4)])
        self.assertIs(is_set(row, most_ties(row)[1]), True)
        self.assertIs(is_set(row, most_of(row, 1, 5)[1]), True)
        self.assertIs(paper_shows(row, table_of(row)), True)
        self.assertEqual(row_of(how_many_most(row), []), (how_many_most(row), []))
        weights = table_of(row)[2]
        self.assertEqual(len(greatest_weights(row, weights)), most_ties(row)[0] + 1)
        found = heaviest(row, weights)[1]
        self.assertEqual(set_at(row, set_number(row, found)), found)
        kinds = fewest_cuts(row)
        self.assertEqual(row_of_kinds(kinds, row[1], 0)[0], len(kinds))
        self.assertEqual(next_set(row, set_at(row, count_sets(row) - 2)), set_at(row, count_sets(row) - 1))
        self.assertIs(is_set(row_turned(row), set_turned(row, found)), True)
        self.assertEqual(read_row(show_row(row)), row)
        self.assertEqual(read_brackets(brackets(row[0], found)), (row[0], found))
        self.assertGreater(count_shape(row, shape_of(row, found)), 0)
        self.assertEqual(row_of_kinds(depths_of(row, found), row[1], 0)[0], len(found))
        for i, j in stretches_of(row, found):
            self.assertEqual(most_of(row, i, j)[0], table_of(row)[i][j - i])
        both = rows_joined(row, row_turned(row))
        self.assertIs(is_set(both, sets_joined(row, row_turned(row), found, set_turned(row, found))), True)
        self.assertEqual(Desk().say(f"row {show_row(both)}"), "points 12")


class BoundsTest(unittest.TestCase):
    def test_rows_of_forty_points_with_three_hundred_ties(self):
        for row in [large_row(), blocks_row()]:
            self.assertEqual(row_of(40, row[1][::-1]), row)
            number, ties = most_ties(row)
            self.assertEqual(most_of(row, 0, 40), (number, ties))
            self.assertIsNone(first_fault(row, ties))
            self.assertIs(paper_shows(row, table_of(row)), True)
            self.assertEqual(len(always_tied(row)), 2)
            self.assertGreater(how_many_most(row), 0)
            weights = [k % 7 - 3 for k in range(300)]
            self.assertEqual(heaviest(row, weights)[0], max(greatest_weights(row, weights)))
            self.assertEqual(heaviest_of(row, weights, 3)[0], greatest_weights(row, weights)[3])
            self.assertIs(weights_show(row, [1] * 300, table_of(row)), True)
            self.assertEqual(sum(by_size(row)), count_sets(row))
            self.assertLess(count_with(row, row[1][150]), count_sets(row))
            self.assertLess(set_number(row, ties), count_sets(row))
            self.assertEqual(next_set(row, ties), set_at(row, set_number(row, ties) + 1))
            self.assertEqual(how_many_begin(row, ties), 1)
            self.assertEqual((whole_set(row), count_whole(row)), (None, 0))
            self.assertEqual(fewest_cuts(row)[-1], 40)
            self.assertLess(longest_whole(row), (40, 40))
            self.assertEqual(max(depths_of(row, ties)), depth_of(row, ties))
            self.assertEqual(nest_of(row, ties).count(None), depths_of(row, ties).count(1))
            self.assertGreaterEqual(how_many_most(row), count_shape(row, shape_of(row, ties)))
            self.assertEqual(stretches_of(row, ties)[0][0], 0)
            self.assertEqual(count_sets(rows_joined(row, row_turned(row))), count_sets(row) ** 2)
            self.assertEqual(read_row(show_row(row)), row)

    def test_a_desk_with_forty_points_and_three_hundred_ties(self):
        for row in [large_row(), blocks_row()]:
            number, ties = most_ties(row)
            text = brackets(40, ties)
            desk = Desk()
            self.assertEqual(desk.say(f"row {show_row(row)}"), "points 40")
            self.assertEqual(desk.say("sets"), str(count_sets(row)))
            self.assertEqual(desk.say(f"set {set_number(row, ties)}"), text)
            self.assertEqual(desk.say(f"number {text}"), str(set_number(row, ties)))
            self.assertEqual(desk.say("still"), str(number))
            for a, b in ties:
                desk.say(f"keep {a}-{b}")
            self.assertEqual(desk.say("kept"), text)
            self.assertEqual(desk.say("still"), str(number))

    def test_kinds_of_twenty_four_points_with_three_hundred_pairs(self):
        kinds = list(range(24))
        pairs = [(a, b) for a in range(24) for b in range(a + 1)]
        for gap in (0, 1):
            self.assertEqual(row_of_kinds(kinds, pairs, gap)[0], 24)
            self.assertEqual(most_of_kinds(kinds, pairs, gap)[0], (24 - gap) // 2)
            self.assertEqual(best_kinds(kinds, pairs, gap, 5), ((24 - gap) // 2, kinds))
            self.assertEqual(most_with(kinds, pairs, gap, 24, 0), 12)

    def test_nothing_is_refused_somewhat_beyond(self):
        row = row_of(80, [(k, k + d) for d in (1, 2, 3, 4, 5) for k in range(80 - d)])
        self.assertEqual(most_ties(row)[0], 40)
        self.assertIs(paper_shows(row, table_of(row)), True)
        self.assertEqual(always_tied(row), (list(range(80)), []))
        self.assertEqual(heaviest(row, [1] * len(row[1]))[0], 40)
        self.assertEqual(len(greatest_weights(row, [0] * len(row[1]))), 41)
        self.assertEqual(set_number(row, set_at(row, count_sets(row) // 2)), count_sets(row) // 2)
        self.assertEqual(fewest_cuts(row), [80])
        self.assertEqual(count_shape(row, "()" * 40), 1)
        self.assertEqual(shape_of(row, most_ties(row)[1]), "()" * 40)
        self.assertEqual(row_turned(row), row)
        self.assertEqual(rows_joined(row, row)[0], 160)


def kinds_in(thing):
    """The kinds of all that stands in a thing."""
    if isinstance(thing, (list, tuple)):
        return [kind for part in thing for kind in kinds_in(part)]
    return [type(thing)]


if __name__ == "__main__":
    unittest.main()
