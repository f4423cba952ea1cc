import unittest
from itertools import product

from archrow.arcs import is_set, row_of
from archrow.counted import count_sets, set_at
from archrow.errors import NoSet
from archrow.joined import row_turned, rows_joined, set_turned, sets_joined
from archrow.kept import most_ties
from plainly import a_row, all_rows, all_sets, blocks_row, large_row, most_and_count, sizes_plainly, small_rows
from refusing import RefusalTest

ROW = (5, [(0, 1), (0, 3), (1, 2), (1, 4), (2, 3), (2, 4), (3, 4)])


def two_rows():
    """Rows of up to three points with all others of these, and some greater ones."""
    tiny = [row for many in range(4) for row in all_rows(many)]
    yield from product(tiny, tiny)
    for seed in range(10):
        yield a_row(seed, 5, seed), a_row(seed + 50, 4, 6 - seed // 2)
        yield a_row(seed, 6, 15 - seed), (seed, [])
        yield (seed, []), a_row(seed, 6, 15 - seed)


def rows_that_are_great():
    """Rows of forty points, with three hundred ties and with none, and one without points."""
    return [large_row(), blocks_row(), (40, []), (0, [])]


class RowsJoinedTest(unittest.TestCase):
    def test_by_hand(self):
        self.assertEqual(rows_joined((2, [(0, 1)]), (2, [(0, 1)])), (4, [(0, 1), (2, 3)]))
        one, other = (3, [(0, 2), (1, 2)]), (4, [(0, 1), (1, 3)])
        self.assertEqual(rows_joined(one, other), (7, [(0, 2), (1, 2), (3, 4), (4, 6)]))
        self.assertEqual(rows_joined((3, []), (2, [(0, 1)])), (5, [(3, 4)]))
        self.assertEqual(rows_joined((2, [(0, 1)]), (3, [])), (5, [(0, 1)]))

    def test_rows_without_points_and_without_ties(self):
        self.assertEqual(rows_joined((0, []), (0, [])), (0, []))
        self.assertEqual(rows_joined((3, []), (4, [])), (7, []))
        for row in [(0, []), (1, []), ROW, large_row()]:
            self.assertEqual(rows_joined(row, (0, [])), row)
            self.assertEqual(rows_joined((0, []), row), row)

    def test_the_second_ones_points_are_behind(self):
        for one, other in two_rows():
            many, ties = rows_joined(one, other)
            self.assertEqual(many, one[0] + other[0])
            for a in range(many):
                for b in range(a + 1, many):
                    held = (a, b) in one[1] or (a - one[0], b - one[0]) in other[1]
                    self.assertEqual((a, b) in ties, held, (one, other, a, b))

    def test_it_is_a_row(self):
        for one, other in list(two_rows()) + list(product(rows_that_are_great(), repeat=2)):
            row = rows_joined(one, other)
            self.assertEqual(row, row_of(row[0], row[1]))

    def test_the_most_of_both_is_the_sum(self):
        for one, other in two_rows():
            number, ties = most_ties(rows_joined(one, other))
            self.assertEqual(number, most_ties(one)[0] + most_ties(other)[0])
            self.assertEqual(ties, sets_joined(one, other, most_ties(one)[1], most_ties(other)[1]))
            self.assertEqual(count_sets(rows_joined(one, other)), count_sets(one) * count_sets(other))

    def test_rows_of_eighty_points(self):
        for one, other in product(rows_that_are_great(), repeat=2):
            row = rows_joined(one, other)
            self.assertEqual(row[0], one[0] + other[0])
            self.assertEqual(len(row[1]), len(one[1]) + len(other[1]))
            number, ties = most_ties(row)
            self.assertEqual(number, most_and_count(one)[0] + most_and_count(other)[0])
            self.assertEqual(ties, sets_joined(one, other, most_ties(one)[1], most_ties(other)[1]))
            self.assertEqual(count_sets(row), sum(sizes_plainly(one)) * sum(sizes_plainly(other)))

    def test_kinds(self):
        told = rows_joined((2, [(0, 1)]), (2, [(0, 1)]))
        self.assertEqual([type(told), type(told[0]), type(told[1])], [tuple, int, list])
        self.assertEqual([type(tie) for tie in told[1]], [tuple, tuple])
        told = rows_joined((0, []), (0, []))
        self.assertEqual([type(told), type(told[0]), type(told[1])], [tuple, int, list])


class SetsJoinedTest(RefusalTest):
    def test_by_hand(self):
        row = (2, [(0, 1)])
        self.assertEqual(sets_joined(row, row, [(0, 1)], [(0, 1)]), [(0, 1), (2, 3)])
        self.assertEqual(sets_joined(row, row, [], [(0, 1)]), [(2, 3)])
        self.assertEqual(sets_joined(row, row, [(0, 1)], []), [(0, 1)])
        self.assertEqual(sets_joined(row, row, [], []), [])
        self.assertEqual(sets_joined(ROW, ROW, [(0, 3), (1, 2)], [(1, 4), (2, 3)]), [(0, 3), (1, 2), (6, 9), (7, 8)])

    def test_rows_without_points_and_without_ties(self):
        self.assertEqual(sets_joined((0, []), (0, []), [], []), [])
        self.assertEqual(sets_joined((0, []), ROW, [], [(0, 3), (1, 2)]), [(0, 3), (1, 2)])
        self.assertEqual(sets_joined(ROW, (0, []), [(0, 3), (1, 2)], []), [(0, 3), (1, 2)])
        self.assertEqual(sets_joined((3, []), ROW, [], [(0, 3), (1, 2)]), [(3, 6), (4, 5)])

    def test_two_sets_make_just_the_sets_of_both(self):
        for one, other in two_rows():
            made = [sets_joined(one, other, ties, others) for ties in all_sets(one) for others in all_sets(other)]
            self.assertEqual(sorted(made), sorted(all_sets(rows_joined(one, other))), (one, other))

    def test_sets_of_eighty_points(self):
        for one, other in product(rows_that_are_great(), repeat=2):
            ties = set_at(one, count_sets(one) // 2)
            others = set_at(other, count_sets(other) // 3)
            made = sets_joined(one, other, ties, others)
            self.assertIs(is_set(rows_joined(one, other), made), True)
            self.assertEqual(len(made), len(ties) + len(others))

    def test_no_set_ahead(self):
        self.refuses_all_that_is_no_set(lambda row, ties: sets_joined(row, ROW, ties, [(0, 1)]))
        self.refuses_all_that_is_no_set(lambda row, ties: sets_joined(row, (0, []), ties, []))

    def test_no_set_behind(self):
        self.refuses_all_that_is_no_set(lambda row, ties: sets_joined(ROW, row, [(0, 1)], ties))
        self.refuses_all_that_is_no_set(lambda row, ties: sets_joined((0, []), row, [], ties))

    def test_each_is_held_against_its_own_row(self):
        one, other = (2, [(0, 1)]), (4, [(2, 3)])
        self.assertEqual(sets_joined(one, other, [(0, 1)], [(2, 3)]), [(0, 1), (4, 5)])
        self.refuses(NoSet, sets_joined, one, other, [(2, 3)], [(0, 1)])
        self.refuses(NoSet, sets_joined, one, other, [(0, 1)], [(0, 1)])
        self.refuses(NoSet, sets_joined, one, other, [(2, 3)], [(2, 3)])
        self.refuses(NoSet, sets_joined, one, other, [(0, 1)], [(4, 5)])

    def test_kinds(self):
        told = sets_joined(ROW, ROW, [(0, 1)], [(0, 1)])
        self.assertEqual([type(told)] + [type(tie) for tie in told], [list, tuple, tuple])


class RowTurnedTest(unittest.TestCase):
    def test_by_hand(self):
        self.assertEqual(row_turned((3, [(0, 1)])), (3, [(1, 2)]))
        self.assertEqual(row_turned((4, [(0, 1), (0, 2), (1, 3)])), (4, [(0, 2), (1, 3), (2, 3)]))
        self.assertEqual(row_turned((2, [(0, 1)])), (2, [(0, 1)]))

    def test_rows_without_points_and_without_ties(self):
        for many in (0, 1, 2, 40):
            self.assertEqual(row_turned((many, [])), (many, []))

    def test_point_by_point(self):
        for row in list(small_rows()) + rows_that_are_great():
            many, ties = row_turned(row)
            self.assertEqual(many, row[0])
            moved = {frozenset((many - 1 - a, many - 1 - b)) for a, b in row[1]}
            self.assertEqual({frozenset(tie) for tie in ties}, moved)
            self.assertEqual((many, ties), row_of(many, ties), row)

    def test_turned_twice_all_is_as_it_was(self):
        for row in list(small_rows()) + rows_that_are_great():
            self.assertEqual(row_turned(row_turned(row)), row)

    def test_the_most_and_the_count_stay(self):
        for row in list(small_rows()) + rows_that_are_great():
            self.assertEqual(most_ties(row_turned(row))[0], most_ties(row)[0])
            self.assertEqual(count_sets(row_turned(row)), count_sets(row))

    def test_both_joined_and_turned(self):
        for one, other in two_rows():
            turned = rows_joined(row_turned(other), row_turned(one))
            self.assertEqual(row_turned(rows_joined(one, other)), turned)

    def test_kinds(self):
        for row in [(0, []), ROW]:
            told = row_turned(row)
            self.assertEqual([type(told), type(told[0]), type(told[1])], [tuple, int, list])
            self.assertEqual([type(tie) for tie in told[1]], [tuple] * len(told[1]))


class SetTurnedTest(RefusalTest):
    def test_by_hand(self):
        self.assertEqual(set_turned(ROW, [(0, 1)]), [(3, 4)])
        self.assertEqual(set_turned(ROW, [(0, 1), (2, 4)]), [(0, 2), (3, 4)])
        self.assertEqual(set_turned(ROW, [(1, 4), (2, 3)]), [(0, 3), (1, 2)])
        for row in [(0, []), (1, []), (40, []), ROW]:
            self.assertEqual(set_turned(row, []), [])

    def test_the_sets_of_a_row_turned_about(self):
        for row in small_rows():
            sets = all_sets(row)
            made = [set_turned(row, ties) for ties in sets]
            self.assertEqual(sorted(made), sorted(all_sets(row_turned(row))), row)
            for ties, turned in zip(sets, made):
                points = {row[0] - 1 - point for tie in ties for point in tie}
                self.assertEqual({point for tie in turned for point in tie}, points)

    def test_turned_twice_all_is_as_it_was(self):
        for row in small_rows():
            for ties in all_sets(row):
                self.assertEqual(set_turned(row_turned(row), set_turned(row, ties)), ties)
        for row in rows_that_are_great():
            for ties in [most_ties(row)[1], set_at(row, count_sets(row) // 2)]:
                self.assertIs(is_set(row_turned(row), set_turned(row, ties)), True)
                self.assertEqual(set_turned(row_turned(row), set_turned(row, ties)), ties)

    def test_kinds(self):
        told = set_turned(ROW, [(0, 1), (2, 4)])
        self.assertEqual([type(told)] + [type(tie) for tie in told], [list, tuple, tuple])

    def test_no_set(self):
        self.refuses_all_that_is_no_set(set_turned)


if __name__ == "__main__":
    unittest.main()
