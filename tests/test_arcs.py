import unittest
from itertools import permutations, product

from archrow.arcs import do_cross, first_fault, is_set, row_of
from archrow.errors import NoRow, NoTie
from plainly import all_sets, clash, small_rows
from refusing import RefusalTest

FAR = 10 ** 29


class RowTest(RefusalTest):
    def test_ties_in_any_order_either_way_about_each_once_or_more(self):
        given = [(3, 1), (0, 4), (1, 3), (4, 0), (2, 0), (1, 3), (0, 1)]
        self.assertEqual(row_of(5, given), (5, [(0, 1), (0, 2), (0, 4), (1, 3)]))

    def test_every_order_makes_the_same_row(self):
        for ties in permutations([(0, 2), (2, 1), (3, 0), (0, 2)]):
            self.assertEqual(row_of(4, list(ties)), (4, [(0, 2), (0, 3), (1, 2)]))

    def test_sorted_by_numbers_not_by_figures(self):
        self.assertEqual(row_of(12, [(10, 11), (9, 2), (2, 10)])[1], [(2, 9), (2, 10), (10, 11)])

    def test_no_points_no_ties(self):
        self.assertEqual(row_of(0, []), (0, []))
        self.assertEqual(row_of(1, []), (1, []))
        self.assertEqual(row_of(40, []), (40, []))

    def test_first_and_last_point(self):
        self.assertEqual(row_of(2, [(1, 0)]), (2, [(0, 1)]))
        self.assertEqual(row_of(40, [(39, 0)]), (40, [(0, 39)]))

    def test_kinds(self):
        row = row_of(4, [(3, 2), (1, 0), (0, 1)])
        self.assertIs(type(row), tuple)
        self.assertIs(type(row[0]), int)
        self.assertIs(type(row[1]), list)
        self.assertTrue(all(type(tie) is tuple for tie in row[1]))

    def test_four_hundred_tuples(self):
        given = [(k % 39 + 1, 0) for k in range(400)]
        self.assertEqual(row_of(40, given), (40, [(0, k) for k in range(1, 40)]))

    def test_a_row_told_can_be_handed_in(self):
        for row in small_rows():
            self.assertEqual(row_of(*row), row)

    def test_many_below_0(self):
        for many in (-1, -2, -FAR):
            self.refuses(NoRow, row_of, many, [])
            self.refuses(NoRow, row_of, many, [(0, 1)])

    def test_a_point_that_is_none(self):
        for wrong in (-1, -3, -FAR, 3, 4, FAR):
            for fine in (0, 1, 2):
                self.refuses(NoRow, row_of, 3, [(fine, wrong)])
                self.refuses(NoRow, row_of, 3, [(wrong, fine)])
                self.refuses(NoRow, row_of, 3, [(0, 1), (0, 2), (wrong, fine)])
        self.refuses(NoRow, row_of, 0, [(0, 1)])
        self.refuses(NoRow, row_of, 1, [(0, 1)])

    def test_both_are_one(self):
        for point in (-1, 0, 1, 2, 3, FAR):
            self.refuses(NoRow, row_of, 3, [(point, point)])
            self.refuses(NoRow, row_of, 3, [(0, 1), (point, point), (1, 2)])


class CrossTest(RefusalTest):
    def test_crossing_either_way_about(self):
        self.assertIs(do_cross((0, 2), (1, 3)), True)
        self.assertIs(do_cross((1, 3), (0, 2)), True)
        self.assertIs(do_cross((0, 9), (4, 30)), True)
        self.assertIs(do_cross((4, 30), (0, 9)), True)

    def test_beside(self):
        self.assertIs(do_cross((0, 1), (2, 3)), False)
        self.assertIs(do_cross((2, 3), (0, 1)), False)

    def test_one_within_the_other(self):
        self.assertIs(do_cross((0, 3), (1, 2)), False)
        self.assertIs(do_cross((1, 2), (0, 3)), False)

    def test_sharing_a_point(self):
        for one, other in [((0, 2), (2, 3)), ((0, 2), (0, 3)), ((0, 3), (1, 3)), ((0, 2), (1, 2))]:
            self.assertIs(do_cross(one, other), False)
            self.assertIs(do_cross(other, one), False)

    def test_the_same_tie_twice(self):
        self.assertIs(do_cross((0, 1), (0, 1)), False)
        self.assertIs(do_cross((2, 7), (2, 7)), False)

    def test_all_ties_of_six_points(self):
        ties = [(a, b) for b in range(6) for a in range(b)]
        for one, other in product(ties, ties):
            apart = not set(one) & set(other)
            self.assertIs(do_cross(one, other), apart and clash(one, other), (one, other))

    def test_points_of_thirty_figures(self):
        self.assertIs(do_cross((FAR, FAR + 2), (FAR + 1, FAR + 3)), True)
        self.assertIs(do_cross((FAR + 1, FAR + 3), (FAR, FAR + 2)), True)
        self.assertIs(do_cross((FAR, FAR + 1), (FAR + 1, FAR + 3)), False)
        self.assertIs(do_cross((0, FAR * 9), (1, FAR * 9 + 1)), True)
        self.assertIs(do_cross((0, FAR * 9 + 1), (1, FAR * 9)), False)
        self.refuses(NoTie, do_cross, (FAR + 1, FAR), (0, 1))

    def test_no_tie(self):
        for wrong in [(1, 0), (3, 2), (0, 0), (5, 5), (-1, 2), (-2, -1), (-1, -1), (2, -1), (-FAR, FAR), (0, -FAR)]:
            for fine in [(0, 1), (0, 3), (1, 4)]:
                self.refuses(NoTie, do_cross, wrong, fine)
                self.refuses(NoTie, do_cross, fine, wrong)
            self.refuses(NoTie, do_cross, wrong, wrong)


def fault_plainly(row, ties):
    """Every fault there is, by the order in which they are told; the first of them."""
    kinds = ["none", "order", "twice", "cross"]
    faults = []
    for k, tie in enumerate(ties):
        if tie not in row[1]:
            faults.append((k, 0, 0))
        if k and not tie > ties[k - 1]:
            faults.append((k, 1, 0))
        for j in range(k):
            if set(ties[j]) & set(tie):
                faults.append((k, 2, j))
            elif clash(ties[j], tie):
                faults.append((k, 3, j))
    if not faults:
        return None
    k, kind, j = min(faults)
    return (kinds[kind], k) if kind < 2 else (kinds[kind], j, k)


class FaultTest(RefusalTest):
    row = (6, [(0, 1), (0, 2), (0, 3), (0, 5), (1, 2), (1, 3), (1, 4), (2, 3), (2, 4), (3, 5), (4, 5)])

    def tells(self, ties, fault):
        told = first_fault(self.row, ties)
        self.assertEqual(told, fault, ties)
        self.assertIn(type(told), (tuple, type(None)))
        self.assertIs(is_set(self.row, ties), fault is None, ties)

    def test_without_a_fault(self):
        self.tells([], None)
        self.tells([(2, 4)], None)
        self.tells([(0, 1), (2, 3), (4, 5)], None)
        self.tells([(0, 5), (1, 4), (2, 3)], None)
        self.tells([(0, 5), (1, 2)], None)

    def test_none(self):
        self.tells([(0, 4)], ("none", 0))
        self.tells([(0, 1), (3, 4)], ("none", 1))
        self.tells([(0, 1), (2, 3), (5, 4)], ("none", 2))

    def test_points_that_are_none(self):
        for wrong in [(-1, 2), (0, 6), (6, 7), (0, FAR), (-FAR, FAR), (0, 0), (2, 1), (9, -9)]:
            self.tells([wrong], ("none", 0))
            self.tells([(0, 1), wrong], ("none", 1))

    def test_order(self):
        self.tells([(2, 3), (0, 1)], ("order", 1))
        self.tells([(0, 1), (0, 1)], ("order", 1))
        self.tells([(0, 3), (0, 2)], ("order", 1))
        self.tells([(0, 1), (4, 5), (2, 3)], ("order", 2))

    def test_twice(self):
        self.tells([(0, 1), (0, 2)], ("twice", 0, 1))
        self.tells([(0, 1), (1, 2)], ("twice", 0, 1))
        self.tells([(0, 3), (1, 2), (2, 3)], ("twice", 0, 2))
        self.tells([(0, 1), (2, 3), (3, 5)], ("twice", 1, 2))

    def test_cross(self):
        self.tells([(0, 2), (1, 3)], ("cross", 0, 1))
        self.tells([(0, 5), (1, 3), (2, 4)], ("cross", 1, 2))

    def test_the_least_k_goes_first(self):
        self.tells([(0, 2), (1, 3), (0, 4)], ("cross", 0, 1))
        self.tells([(0, 1), (1, 2), (9, 9)], ("twice", 0, 1))
        self.tells([(2, 3), (0, 1), (7, 8)], ("order", 1))

    def test_of_one_k_the_kinds_in_their_order(self):
        self.tells([(2, 3), (0, 4)], ("none", 1))
        self.tells([(0, 2), (2, 1)], ("none", 1))
        self.tells([(1, 3), (0, 2)], ("order", 1))
        self.tells([(1, 2), (0, 1)], ("order", 1))
        self.tells([(0, 3), (1, 2), (2, 4)], ("twice", 1, 2))

    def test_of_one_kind_the_least_j(self):
        row = (7, [(0, 4), (1, 3), (2, 5), (3, 4), (1, 4)])
        self.assertEqual(first_fault((7, sorted(row[1])), [(0, 4), (1, 3), (2, 5)]), ("cross", 0, 2))
        self.assertEqual(first_fault((7, sorted(row[1])), [(0, 4), (1, 3), (3, 4)]), ("twice", 0, 2))

    def test_no_points(self):
        self.assertIs(is_set((0, []), []), True)
        self.assertIsNone(first_fault((0, []), []))
        self.assertIs(is_set((0, []), [(0, 1)]), False)
        self.assertEqual(first_fault((0, []), [(0, 1)]), ("none", 0))

    def test_all_lists_of_three_tuples(self):
        row = (5, [(0, 1), (0, 3), (1, 2), (1, 4), (2, 3), (2, 4), (3, 4)])
        tuples = row[1] + [(1, 0), (0, 4), (-1, 5)]
        for length in range(4):
            for ties in product(tuples, repeat=length):
                fault = fault_plainly(row, list(ties))
                self.assertEqual(first_fault(row, list(ties)), fault, ties)
                self.assertIs(is_set(row, list(ties)), fault is None, ties)

    def test_all_sets_of_small_rows_are_sets(self):
        for row in small_rows():
            for ties in all_sets(row):
                self.assertIs(is_set(row, ties), True)
                self.assertIsNone(first_fault(row, ties))

    def test_four_hundred_tuples(self):
        row = (40, [(a, b) for b in range(24) for a in range(b)])
        row[1].sort()
        nested = [(a, 23 - a) for a in range(12)]
        self.assertIsNone(first_fault(row, nested))
        self.assertEqual(first_fault(row, nested + [(0, 23)] * 388), ("order", 12))
        self.assertEqual(first_fault(row, nested + [(23, 24)] * 388), ("none", 12))


if __name__ == "__main__":
    unittest.main()
