import unittest
from collections import Counter
from itertools import product
from math import comb

from archrow.counted import by_size, count_sets, set_at
from archrow.errors import NoShape
from archrow.kept import most_ties
from archrow.shapes import count_shape, depth_of, depths_of, nest_of, shape_of, stretches_of
from plainly import (
    a_row, a_shape, all_sets, all_shapes, blocks_row, count_shape_plainly, full_row, large_row, shape_plainly,
    small_rows,
)
from refusing import RefusalTest

ROW = (12, [(0, 7), (1, 2), (3, 6), (4, 5), (8, 9), (10, 11)])
FAN = (40, [(k, 39 - k) for k in range(20)])


def sets_of_small_rows():
    """Every set of every small row, with its row."""
    for row in small_rows():
        for ties in all_sets(row):
            yield row, ties


def sets_of_great_rows():
    """Some sets of rows of forty points with three hundred ties, with their rows."""
    for row in [large_row(), blocks_row()]:
        yield row, most_ties(row)[1]
        for part in range(1, 30):
            yield row, set_at(row, count_sets(row) * part // 30)


def above(ties, tie):
    """Every tie of a set that lies above one, all others gone through."""
    return [other for other in ties if other[0] < tie[0] and tie[1] < other[1]]


class NestTest(RefusalTest):
    def test_by_hand(self):
        self.assertEqual(nest_of(ROW, ROW[1]), [None, 0, 0, 2, None, None])
        self.assertEqual(nest_of(ROW, [(1, 2), (4, 5), (10, 11)]), [None, None, None])
        self.assertEqual(nest_of(ROW, [(3, 6), (4, 5), (8, 9)]), [None, 0, None])
        self.assertEqual(nest_of(FAN, FAN[1]), [None] + list(range(19)))

    def test_the_empty_set(self):
        for row in [(0, []), (1, []), (40, []), ROW, large_row()]:
            self.assertEqual(nest_of(row, []), [])

    def test_against_all_two_ties(self):
        for row, ties in list(sets_of_small_rows()) + list(sets_of_great_rows()):
            nest = []
            for tie in ties:
                over = above(ties, tie)
                nest.append(ties.index(min(over, key=lambda other: other[1] - other[0])) if over else None)
            self.assertEqual(nest_of(row, ties), nest, (row, ties))

    def test_kinds(self):
        told = nest_of(ROW, ROW[1])
        self.assertIs(type(told), list)
        self.assertEqual({type(place) for place in told}, {int, type(None)})

    def test_no_set(self):
        self.refuses_all_that_is_no_set(nest_of)


class DepthsTest(RefusalTest):
    def test_by_hand(self):
        self.assertEqual(depths_of(ROW, ROW[1]), [1, 2, 2, 3, 1, 1])
        self.assertEqual(depths_of(ROW, [(1, 2), (4, 5), (10, 11)]), [1, 1, 1])
        self.assertEqual(depths_of(FAN, FAN[1]), list(range(1, 21)))

    def test_the_empty_set(self):
        for row in [(0, []), (1, []), (40, []), ROW, large_row()]:
            self.assertEqual(depths_of(row, []), [])

    def test_against_all_two_ties(self):
        for row, ties in list(sets_of_small_rows()) + list(sets_of_great_rows()):
            depths = [1 + len(above(ties, tie)) for tie in ties]
            self.assertEqual(depths_of(row, ties), depths, (row, ties))

    def test_kinds(self):
        told = depths_of(ROW, ROW[1])
        self.assertEqual([type(told)] + [type(depth) for depth in told], [list] + [int] * 6)

    def test_no_set(self):
        self.refuses_all_that_is_no_set(depths_of)


class DepthTest(RefusalTest):
    def test_by_hand(self):
        self.assertEqual(depth_of(ROW, ROW[1]), 3)
        self.assertEqual(depth_of(ROW, [(8, 9), (10, 11)]), 1)
        self.assertEqual(depth_of(FAN, FAN[1]), 20)

    def test_the_empty_set(self):
        for row in [(0, []), (1, []), (40, []), ROW, large_row()]:
            self.assertEqual(depth_of(row, []), 0)

    def test_against_all_two_ties(self):
        for row, ties in list(sets_of_small_rows()) + list(sets_of_great_rows()):
            depths = [1 + len(above(ties, tie)) for tie in ties]
            self.assertEqual(depth_of(row, ties), max(depths + [0]), (row, ties))

    def test_kind(self):
        self.assertIs(type(depth_of(ROW, [])), int)
        self.assertIs(type(depth_of(ROW, ROW[1])), int)

    def test_no_set(self):
        self.refuses_all_that_is_no_set(depth_of)


class ShapeTest(RefusalTest):
    def test_by_hand(self):
        self.assertEqual(shape_of(ROW, ROW[1]), "(()(()))()()")
        self.assertEqual(shape_of(ROW, [(1, 2), (4, 5), (10, 11)]), "()()()")
        self.assertEqual(shape_of(ROW, [(0, 7), (4, 5), (10, 11)]), "(())()")
        self.assertEqual(shape_of(FAN, FAN[1]), "(" * 20 + ")" * 20)

    def test_the_empty_set(self):
        for row in [(0, []), (1, []), (40, []), ROW, large_row()]:
            self.assertEqual(shape_of(row, []), "")

    def test_points_that_are_not_tied_are_left_out(self):
        self.assertEqual(shape_of((9, [(1, 7), (3, 5)]), [(1, 7), (3, 5)]), "(())")
        self.assertEqual(shape_of((9, [(0, 2), (6, 8)]), [(0, 2), (6, 8)]), "()()")

    def test_sets_point_by_point(self):
        for row, ties in list(sets_of_small_rows()) + list(sets_of_great_rows()):
            self.assertEqual(shape_of(row, ties), shape_plainly(row, ties), (row, ties))

    def test_kind(self):
        self.assertIs(type(shape_of((0, []), [])), str)
        self.assertIs(type(shape_of(ROW, ROW[1])), str)

    def test_no_set(self):
        self.refuses_all_that_is_no_set(shape_of)


class CountShapeTest(RefusalTest):
    def test_by_hand(self):
        row = (4, [(0, 1), (0, 3), (1, 2), (2, 3)])
        self.assertEqual(count_shape(row, "()"), 4)
        self.assertEqual(count_shape(row, "()()"), 1)
        self.assertEqual(count_shape(row, "(())"), 1)
        self.assertEqual(count_shape((4, [(0, 2), (1, 3)]), "()()"), 0)
        self.assertEqual(count_shape((4, [(0, 2), (1, 3)]), "(())"), 0)
        self.assertEqual(count_shape((4, [(0, 2), (1, 3)]), "()"), 2)

    def test_the_empty_shape(self):
        for row in [(0, []), (1, []), (40, []), ROW, large_row()]:
            self.assertEqual(count_shape(row, ""), 1)

    def test_more_brackets_than_points(self):
        self.assertEqual(count_shape((0, []), "()"), 0)
        self.assertEqual(count_shape((1, []), "()"), 0)
        self.assertEqual(count_shape((3, [(0, 1), (0, 2), (1, 2)]), "()()"), 0)
        self.assertEqual(count_shape((3, [(0, 1), (0, 2), (1, 2)]), "(())"), 0)
        for row in [(0, []), large_row(), full_row(40)]:
            for shape in ["(" * 21 + ")" * 21, "()" * 21, "()" * 1000, "(" * 1000 + ")" * 1000]:
                self.assertEqual(count_shape(row, shape), 0)

    def test_as_many_brackets_as_points(self):
        self.assertEqual(count_shape((2, [(0, 1)]), "()"), 1)
        self.assertEqual(count_shape(FAN, "(" * 20 + ")" * 20), 1)
        self.assertEqual(count_shape(FAN, "()" * 20), 0)
        self.assertEqual(count_shape((40, [(2 * k, 2 * k + 1) for k in range(20)]), "()" * 20), 1)

    def test_rows_without_ties(self):
        for many in (0, 1, 2, 40):
            self.assertEqual(count_shape((many, []), "()"), 0)
            self.assertEqual(count_shape((many, []), "(())()"), 0)

    def test_every_shape_of_small_rows(self):
        for row in small_rows():
            counts = Counter(shape_plainly(row, ties) for ties in all_sets(row))
            for number in range(6):
                for shape in all_shapes(number):
                    self.assertEqual(count_shape(row, shape), counts[shape], (row, shape))

    def test_rows_of_twelve_points(self):
        for row in [a_row(1, 12, 22), a_row(2, 12, 30), a_row(3, 11, 40)]:
            counts = Counter(shape_plainly(row, ties) for ties in all_sets(row))
            for number in range(6):
                for shape in all_shapes(number):
                    self.assertEqual(count_shape(row, shape), counts[shape], (row, shape))

    def test_all_ties(self):
        for many in (7, 12, 40):
            row = full_row(many)
            for number in (0, 1, 2, 5, 9, 20):
                for seed in range(3):
                    self.assertEqual(count_shape(row, a_shape(seed, number)), comb(many, 2 * number))

    def test_forty_points_three_hundred_ties(self):
        for row in [large_row(), blocks_row()]:
            for number in range(21):
                for seed in range(3):
                    shape = a_shape(seed, number)
                    self.assertEqual(count_shape(row, shape), count_shape_plainly(row, shape), shape)
            for ties in [most_ties(row)[1], set_at(row, count_sets(row) // 3)]:
                shape = shape_plainly(row, ties)
                self.assertGreater(count_shape(row, shape), 0)
                self.assertEqual(count_shape(row, shape), count_shape_plainly(row, shape))

    def test_all_shapes_together_have_all_sets(self):
        for row in small_rows():
            counts = [sum(count_shape(row, shape) for shape in all_shapes(number)) for number in range(5)]
            sizes = by_size(row)
            self.assertEqual(counts, sizes + [0] * (5 - len(sizes)), row)
            self.assertEqual(sum(counts), count_sets(row), row)
        for row in [large_row(), blocks_row()]:
            counts = [sum(count_shape(row, shape) for shape in all_shapes(number)) for number in range(5)]
            self.assertEqual(counts, by_size(row)[:5])

    def test_kind(self):
        for row in [(0, []), (2, [(0, 1)]), ROW]:
            for shape in ["", "()", "()()"]:
                self.assertIs(type(count_shape(row, shape)), int)

    def test_brackets_that_do_not_fit(self):
        fits = [shape for number in range(4) for shape in all_shapes(number)]
        for length in range(7):
            for signs in product("()", repeat=length):
                shape = "".join(signs)
                for row in [(0, []), (3, []), ROW]:
                    if shape in fits:
                        self.assertIs(type(count_shape(row, shape)), int)
                    else:
                        self.refuses(NoShape, count_shape, row, shape)

    def test_brackets_that_do_not_fit_and_are_more_than_points(self):
        for shape in [")", "(", ")(", "())", "(()", "()" * 30 + ")", "(" * 2000, ")" * 2000, "(" * 999 + ")" * 1000]:
            for row in [(0, []), (1, []), large_row()]:
                self.refuses(NoShape, count_shape, row, shape)

    def test_other_signs(self):
        signs = [chr(code) for code in range(32, 127) if chr(code) not in "()"] + ["\n"]
        for sign in signs:
            for shape in [sign, f"(){sign}", f"{sign}()", f"({sign})", f"()(){sign}" * 99, f"){sign}"]:
                for row in [(0, []), ROW]:
                    self.refuses(NoShape, count_shape, row, shape)
        for shape in ["()\n", "\n", " ", "() ()", "(.)", "...", "[]", "( )"]:
            self.refuses(NoShape, count_shape, ROW, shape)


class StretchesTest(RefusalTest):
    def test_by_hand(self):
        row = (12, [(2, 6), (3, 5), (7, 8), (10, 11)])
        self.assertEqual(
            stretches_of(row, row[1]), [(0, 2), (7, 7), (9, 10), (12, 12), (3, 6), (8, 8), (11, 11)])
        self.assertEqual(stretches_of(row, [(3, 5), (10, 11)]), [(0, 3), (6, 10), (12, 12), (4, 5), (11, 11)])
        self.assertEqual(stretches_of(row, [(2, 6)]), [(0, 2), (7, 12), (3, 6)])
        self.assertEqual(stretches_of((2, [(0, 1)]), [(0, 1)]), [(0, 0), (2, 2), (1, 1)])
        self.assertEqual(stretches_of(FAN, FAN[1]), [(0, 0), (40, 40), (1, 39)])

    def test_the_empty_set(self):
        for many in (0, 1, 7, 40):
            self.assertEqual(stretches_of((many, []), []), [(0, many)])
        self.assertEqual(stretches_of(ROW, []), [(0, 12)])
        self.assertEqual(stretches_of(large_row(), []), [(0, 40)])

    def test_point_by_point(self):
        for row, ties in list(sets_of_small_rows()) + list(sets_of_great_rows()):
            outer = [tie for tie in ties if not above(ties, tie)]
            told = stretches_of(row, ties)
            beside, beneath = told[:len(outer) + 1], told[len(outer) + 1:]
            self.assertEqual(beneath, [(a + 1, b) for a, b in outer], (row, ties))
            points = [point for i, j in told for point in range(i, j)]
            ends = [point for tie in outer for point in tie]
            self.assertEqual(sorted(points + ends), list(range(row[0])), (row, ties))
            walked = [0]
            for (i, j), (a, b) in zip(beside, outer):
                self.assertEqual((i, j), (walked[-1], a))
                walked.append(b + 1)
            self.assertEqual(beside[-1], (walked[-1], row[0]))

    def test_kinds(self):
        for ties in [[], ROW[1]]:
            told = stretches_of(ROW, ties)
            self.assertIs(type(told), list)
            for stretch in told:
                self.assertEqual([type(stretch)] + [type(end) for end in stretch], [tuple, int, int])

    def test_no_set(self):
        self.refuses_all_that_is_no_set(stretches_of)


if __name__ == "__main__":
    unittest.main()
