import unittest
from math import comb
from random import Random

from archrow.arcs import is_set
from archrow.counted import by_size, count_sets, count_with, how_many_begin, next_set, set_at, set_number
from archrow.errors import NoNumber, NoTie
from archrow.kept import how_many_most, most_ties
from plainly import (
    a_row, all_rows, all_sets, blocks_row, full_row, large_row, sets_in_order, sizes_plainly, small_rows,
)
from refusing import RefusalTest

FAR = 10 ** 29
CATALAN = [1, 1, 2, 5, 14, 42, 132, 429, 1430, 4862, 16796, 58786, 208012]
MOTZKIN = [1, 1, 2, 4, 9, 21, 51, 127, 323, 835, 2188, 5798, 15511]


def some_numbers(row):
    """Numbers of sets of a row: the first, the last, and some of many figures between."""
    count = count_sets(row)
    chance = Random(3)
    return [0, 1, 2, count // 3, count // 2, count - 2, count - 1] + [chance.randrange(count) for k in range(25)]


class CountTest(unittest.TestCase):
    def test_by_hand(self):
        self.assertEqual(count_sets((0, [])), 1)
        self.assertEqual(count_sets((1, [])), 1)
        self.assertEqual(count_sets((40, [])), 1)
        self.assertEqual(count_sets((2, [(0, 1)])), 2)
        self.assertEqual(count_sets((4, [(0, 2), (1, 3)])), 3)
        self.assertEqual(count_sets((4, [(0, 3), (1, 2)])), 4)
        self.assertEqual(count_sets((3, [(0, 1), (1, 2)])), 3)

    def test_all_ties(self):
        for many, count in enumerate(MOTZKIN):
            self.assertEqual(count_sets(full_row(many)), count)

    def test_small_rows(self):
        for row in list(small_rows()) + list(all_rows(5)):
            self.assertEqual(count_sets(row), len(all_sets(row)), row)

    def test_forty_points_three_hundred_ties(self):
        for row in [large_row(), blocks_row()]:
            self.assertEqual(count_sets(row), sum(sizes_plainly(row)))
        fans = (40, [(2 * k, 2 * k + 1) for k in range(20)])
        self.assertEqual(count_sets(fans), 2 ** 20)

    def test_kind(self):
        self.assertIs(type(count_sets((0, []))), int)
        self.assertIs(type(count_sets((2, [(0, 1)]))), int)


class BySizeTest(unittest.TestCase):
    def test_by_hand(self):
        self.assertEqual(by_size((0, [])), [1])
        self.assertEqual(by_size((40, [])), [1])
        self.assertEqual(by_size((2, [(0, 1)])), [1, 1])
        self.assertEqual(by_size((4, [(0, 2), (1, 3)])), [1, 2])
        self.assertEqual(by_size((4, [(0, 3), (1, 2)])), [1, 2, 1])

    def test_all_ties(self):
        for many in range(12):
            sizes = [comb(many, 2 * half) * CATALAN[half] for half in range(many // 2 + 1)]
            self.assertEqual(by_size(full_row(many)), sizes)

    def test_small_rows(self):
        for row in list(small_rows()) + list(all_rows(5)):
            lengths = [len(held) for held in all_sets(row)]
            self.assertEqual(by_size(row), [lengths.count(size) for size in range(max(lengths) + 1)], row)

    def test_forty_points_three_hundred_ties(self):
        for row in [large_row(), blocks_row()]:
            sizes = by_size(row)
            self.assertEqual(sizes, sizes_plainly(row))
            self.assertEqual(sum(sizes), count_sets(row))
            self.assertEqual((len(sizes) - 1, sizes[-1]), (most_ties(row)[0], how_many_most(row)))
            self.assertEqual(sizes[:2], [1, 300])

    def test_kinds(self):
        told = by_size((4, [(0, 1), (2, 3)]))
        self.assertIs(type(told), list)
        self.assertEqual([type(count) for count in told], [int] * 3)


class CountWithTest(RefusalTest):
    def test_by_hand(self):
        self.assertEqual(count_with((2, [(0, 1)]), (0, 1)), 1)
        self.assertEqual(count_with((4, [(0, 2), (1, 3)]), (0, 2)), 1)
        self.assertEqual(count_with((4, [(0, 3), (1, 2)]), (0, 3)), 2)
        self.assertEqual(count_with((4, [(0, 3), (1, 2)]), (1, 2)), 2)
        self.assertEqual(count_with((6, [(0, 5), (1, 2), (2, 3), (3, 4)]), (0, 5)), 5)
        self.assertEqual(count_with((6, [(0, 5), (1, 2), (2, 3), (3, 4)]), (2, 3)), 2)

    def test_every_tie_of_small_rows(self):
        for row in small_rows():
            sets = all_sets(row)
            for tie in row[1]:
                self.assertEqual(count_with(row, tie), sum(tie in held for held in sets), (row, tie))

    def test_forty_points_three_hundred_ties(self):
        for row in [large_row(), blocks_row()]:
            count = count_sets(row)
            for tie in row[1][::7]:
                without = (40, [other for other in row[1] if other != tie])
                self.assertEqual(count_with(row, tie), count - count_sets(without), tie)
            held = [count_with(row, tie) for tie in row[1]]
            self.assertEqual(sum(held), sum(size * count for size, count in enumerate(by_size(row))))

    def test_no_tie(self):
        row = (5, [(0, 1), (0, 3), (2, 4)])
        wrong = [(1, 0), (3, 0), (0, 2), (3, 4), (0, 0), (4, 4), (-1, 2), (0, 5), (5, 6)]
        for tie in wrong + [(0, FAR), (-FAR, FAR), (9, -9)]:
            self.refuses(NoTie, count_with, row, tie)
            self.refuses(NoTie, count_with, (0, []), tie)
            self.refuses(NoTie, count_with, (6, []), tie)
        self.refuses(NoTie, count_with, large_row(), large_row()[1][0][::-1])

    def test_kind(self):
        self.assertIs(type(count_with((2, [(0, 1)]), (0, 1))), int)


class NumberTest(RefusalTest):
    def test_by_hand(self):
        row = (4, [(0, 1), (0, 3), (1, 2), (2, 3)])
        order = [[], [(0, 1)], [(0, 1), (2, 3)], [(0, 3)], [(0, 3), (1, 2)], [(1, 2)], [(2, 3)]]
        for number, ties in enumerate(order):
            self.assertEqual(set_number(row, ties), number)
            self.assertEqual(set_at(row, number), ties)
        self.refuses(NoNumber, set_at, row, 7)

    def test_no_points_no_ties(self):
        for many in (0, 1, 40):
            self.assertEqual(set_number((many, []), []), 0)
            self.assertEqual(set_at((many, []), 0), [])
            self.refuses(NoNumber, set_at, (many, []), 1)

    def test_every_set_of_small_rows_there_and_back(self):
        for row in small_rows():
            for number, ties in enumerate(sets_in_order(row)):
                self.assertEqual(set_number(row, ties), number, (row, ties))
                self.assertEqual(set_at(row, number), ties, (row, number))

    def test_rows_of_twelve_points(self):
        for row in [a_row(1, 12, 22), a_row(2, 12, 30), a_row(3, 11, 40)]:
            for number, ties in enumerate(sets_in_order(row)):
                self.assertEqual(set_number(row, ties), number, (row, ties))
                self.assertEqual(set_at(row, number), ties, (row, number))

    def test_numbers_of_many_figures(self):
        for row in [large_row(), blocks_row(), full_row(40)]:
            told = []
            for number in sorted(some_numbers(row)):
                ties = set_at(row, number)
                self.assertIs(is_set(row, ties), True)
                self.assertEqual(set_number(row, ties), number)
                told.append(ties)
            self.assertEqual(told, sorted(told))
            self.assertEqual(told[:3], [[], [row[1][0]], next_set(row, [row[1][0]])])

    def test_the_last_set(self):
        for row in [large_row(), blocks_row()]:
            self.assertEqual(set_at(row, count_sets(row) - 1), [row[1][-1]])
            self.assertEqual(set_number(row, [row[1][-1]]), count_sets(row) - 1)

    def test_the_number_of_the_set_with_the_most(self):
        for row in [large_row(), blocks_row()]:
            ties = most_ties(row)[1]
            self.assertEqual(set_at(row, set_number(row, ties)), ties)

    def test_kinds(self):
        row = (4, [(0, 1), (2, 3)])
        self.assertIs(type(set_number(row, [])), int)
        self.assertIs(type(set_number(row, [(0, 1)])), int)
        for number in range(4):
            told = set_at(row, number)
            self.assertEqual([type(told)] + [type(tie) for tie in told], [list] + [tuple] * len(told))

    def test_no_number(self):
        for row in [(0, []), (5, []), (2, [(0, 1)]), large_row(), full_row(9)]:
            count = count_sets(row)
            for number in (-1, -2, -count, -FAR, count, count + 1, 2 * count, count + FAR, 10 ** 60):
                self.refuses(NoNumber, set_at, row, number)

    def test_no_set(self):
        self.refuses_all_that_is_no_set(set_number)


class NextTest(RefusalTest):
    def test_by_hand(self):
        row = (4, [(0, 1), (0, 3), (1, 2), (2, 3)])
        self.assertEqual(next_set(row, []), [(0, 1)])
        self.assertEqual(next_set(row, [(0, 1)]), [(0, 1), (2, 3)])
        self.assertEqual(next_set(row, [(0, 1), (2, 3)]), [(0, 3)])
        self.assertEqual(next_set(row, [(0, 3), (1, 2)]), [(1, 2)])
        self.assertIsNone(next_set(row, [(2, 3)]))

    def test_from_the_empty_one_through_all(self):
        for row in list(small_rows()) + [a_row(1, 12, 22), a_row(2, 12, 30)]:
            met = []
            ties = []
            while ties is not None:
                met.append(ties)
                ties = next_set(row, ties)
            self.assertEqual(met, sets_in_order(row), row)

    def test_none(self):
        for many in (0, 1, 40):
            self.assertIsNone(next_set((many, []), []))
        for row in [large_row(), blocks_row()]:
            self.assertIsNone(next_set(row, set_at(row, count_sets(row) - 1)))

    def test_forty_points_three_hundred_ties(self):
        for row in [large_row(), blocks_row()]:
            for number in some_numbers(row):
                if number + 1 < count_sets(row):
                    self.assertEqual(next_set(row, set_at(row, number)), set_at(row, number + 1), number)

    def test_kinds(self):
        told = next_set((4, [(0, 1), (2, 3)]), [(0, 1)])
        self.assertEqual([type(told)] + [type(tie) for tie in told], [list, tuple, tuple])

    def test_no_set(self):
        self.refuses_all_that_is_no_set(next_set)


class BeginTest(RefusalTest):
    def test_by_hand(self):
        row = (4, [(0, 1), (0, 3), (1, 2), (2, 3)])
        self.assertEqual(how_many_begin(row, []), 7)
        self.assertEqual(how_many_begin(row, [(0, 1)]), 2)
        self.assertEqual(how_many_begin(row, [(0, 3)]), 2)
        self.assertEqual(how_many_begin(row, [(0, 3), (1, 2)]), 1)
        self.assertEqual(how_many_begin(row, [(2, 3)]), 1)
        self.assertEqual(how_many_begin((0, []), []), 1)

    def test_small_rows(self):
        for row in small_rows():
            if row[0] < 9:
                sets = all_sets(row)
                for ties in sets:
                    count = sum(held[:len(ties)] == ties for held in sets)
                    self.assertEqual(how_many_begin(row, ties), count, (row, ties))

    def test_the_empty_one_begins_all(self):
        for row in [large_row(), blocks_row(), (0, []), (40, [])]:
            self.assertEqual(how_many_begin(row, []), count_sets(row))

    def test_forty_points_three_hundred_ties(self):
        for row in [large_row(), blocks_row()]:
            for number in some_numbers(row):
                ties = set_at(row, number)
                count = how_many_begin(row, ties)
                self.assertEqual(set_at(row, number + count - 1)[:len(ties)], ties)
                if number + count < count_sets(row):
                    self.assertNotEqual(set_at(row, number + count)[:len(ties)], ties)

    def test_kind(self):
        self.assertIs(type(how_many_begin((2, [(0, 1)]), [(0, 1)])), int)

    def test_no_set(self):
        self.refuses_all_that_is_no_set(how_many_begin)


class WholePromiseTest(unittest.TestCase):
    def test_each_set_has_a_number_and_each_number_its_set(self):
        for row in small_rows():
            sets = all_sets(row)
            self.assertEqual(sorted(set_number(row, held) for held in sets), list(range(count_sets(row))), row)
            told = [set_at(row, number) for number in range(count_sets(row))]
            self.assertEqual(told, sorted(sets), row)


if __name__ == "__main__":
    unittest.main()
