"""Points 2 and 3: what is handed in stays as it was, what is told is the asker's own."""

import unittest
from copy import deepcopy

from archrow.arcs import do_cross, first_fault, is_set, row_of
from archrow.errors import NoRow, NoStretch, NoTie
from archrow.kept import always_tied, how_many_most, most_of, most_ties, paper_shows, table_of
from plainly import blocks_row, large_row

ROW = (6, [(0, 1), (0, 5), (1, 2), (2, 4), (3, 4)])

ASKED = [
    (row_of, [6, [(5, 0), (1, 0), (0, 1), (2, 1), (4, 3), (2, 4)]]),
    (row_of, [6, [(0, 1), (0, 5)]]),
    (row_of, [0, []]),
    (do_cross, [(0, 2), (1, 3)]),
    (is_set, [ROW, [(0, 1), (2, 4)]]),
    (is_set, [ROW, [(3, 4), (0, 1), (0, 1)]]),
    (first_fault, [ROW, [(0, 5), (1, 2), (3, 4)]]),
    (first_fault, [ROW, [(0, 1), (1, 2), (9, -9)]]),
    (most_ties, [ROW]),
    (most_ties, [(0, [])]),
    (most_of, [ROW, 1, 5]),
    (most_of, [ROW, 3, 3]),
    (table_of, [ROW]),
    (table_of, [(0, [])]),
    (paper_shows, [ROW, table_of(ROW)]),
    (paper_shows, [ROW, [[0, 1], [], [5]]]),
    (always_tied, [ROW]),
    (always_tied, [(3, [(0, 1), (1, 2)])]),
    (always_tied, [(0, [])]),
    (how_many_most, [ROW]),
]

REFUSED = [
    (NoRow, row_of, [-1, [(1, 0), (0, 1)]]),
    (NoRow, row_of, [3, [(2, 1), (1, 0), (0, 3)]]),
    (NoRow, row_of, [3, [(2, 1), (1, 1)]]),
    (NoTie, do_cross, [(2, 1), (0, 3)]),
    (NoTie, do_cross, [(0, 3), (-1, 1)]),
    (NoStretch, most_of, [ROW, 2, 1]),
    (NoStretch, most_of, [ROW, 0, 7]),
]


def lists_in(thing):
    """Every list in a thing that was told or handed in, itself among them."""
    found = [thing] if isinstance(thing, list) else []
    if isinstance(thing, (list, tuple)):
        for part in thing:
            found += lists_in(part)
    return found


def spoil(thing):
    """Change every list in a thing."""
    for held in lists_in(thing):
        held.reverse()
        held.append((7, 7))


class HandedInTest(unittest.TestCase):
    def test_what_is_handed_in_stays_as_it_was(self):
        for deed, given in ASKED:
            before = deepcopy(given)
            deed(*given)
            self.assertEqual(given, before, deed.__name__)

    def test_what_is_refused_changes_nothing(self):
        for wrong, deed, given in REFUSED:
            before = deepcopy(given)
            with self.assertRaises(wrong) as caught:
                deed(*given)
            self.assertIs(type(caught.exception), wrong)
            self.assertEqual(given, before, deed.__name__)
        for deed, given in ASKED:
            first = deed(*given)
            for wrong, other, wrongly in REFUSED:
                with self.assertRaises(wrong):
                    other(*wrongly)
            self.assertEqual(deed(*given), first)

    def test_what_is_handed_in_may_be_changed_later(self):
        for deed, given in ASKED:
            handed = deepcopy(given)
            told = deed(*handed)
            before = deepcopy(told)
            spoil(handed)
            self.assertEqual(told, before, deed.__name__)
            self.assertEqual(deed(*deepcopy(given)), before, deed.__name__)


class ToldTest(unittest.TestCase):
    def test_every_list_is_a_new_one(self):
        for deed, given in ASKED:
            lists = lists_in(deed(*given)) + lists_in(deed(*given)) + lists_in(given)
            self.assertEqual(len({id(held) for held in lists}), len(lists), deed.__name__)

    def test_a_told_list_that_is_changed_changes_nothing(self):
        for deed, given in ASKED:
            before = deepcopy(given)
            told = deed(*given)
            kept = deepcopy(told)
            spoil(told)
            self.assertEqual(given, before, deed.__name__)
            self.assertEqual(deed(*given), kept, deed.__name__)

    def test_a_told_list_stays_whatever_is_asked_later(self):
        told = [deed(*given) for deed, given in ASKED]
        before = deepcopy(told)
        for deed, given in ASKED[::-1]:
            spoil(deed(*given))
        self.assertEqual(told, before)

    def test_numbers_are_no_truths(self):
        for deed, given in ASKED:
            if deed not in (do_cross, is_set, paper_shows):
                self.assertNotIn(bool, kinds_in(deed(*given)), deed.__name__)
        for deed, given in ASKED:
            if deed in (do_cross, is_set, paper_shows):
                self.assertIs(type(deed(*given)), bool, deed.__name__)

    def test_a_told_thing_can_be_handed_in(self):
        row = row_of(6, [(5, 0), (1, 0), (2, 1), (4, 3), (2, 4)])
        self.assertIs(is_set(row, most_ties(row)[1]), True)
        self.assertIs(is_set(row, most_of(row, 1, 5)[1]), True)
        self.assertIs(paper_shows(row, table_of(row)), True)
        self.assertEqual(row_of(how_many_most(row), []), (how_many_most(row), []))


class BoundsTest(unittest.TestCase):
    def test_rows_of_forty_points_with_three_hundred_ties(self):
        for row in [large_row(), blocks_row()]:
            self.assertEqual(row_of(40, row[1][::-1]), row)
            number, ties = most_ties(row)
            self.assertEqual(most_of(row, 0, 40), (number, ties))
            self.assertIsNone(first_fault(row, ties))
            self.assertIs(paper_shows(row, table_of(row)), True)
            self.assertEqual(len(always_tied(row)), 2)
            self.assertGreater(how_many_most(row), 0)

    def test_nothing_is_refused_somewhat_beyond(self):
        row = row_of(80, [(k, k + d) for d in (1, 2, 3, 4, 5) for k in range(80 - d)])
        self.assertEqual(most_ties(row)[0], 40)
        self.assertIs(paper_shows(row, table_of(row)), True)
        self.assertEqual(always_tied(row), (list(range(80)), []))


def kinds_in(thing):
    """The kinds of all that stands in a thing."""
    if isinstance(thing, (list, tuple)):
        return [kind for part in thing for kind in kinds_in(part)]
    return [type(thing)]


if __name__ == "__main__":
    unittest.main()
