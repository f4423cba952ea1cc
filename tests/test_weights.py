import unittest
from itertools import product

from archrow.arcs import is_set
from archrow.errors import NoNumber, NoWeights
from archrow.kept import most_ties, paper_shows, table_of
from archrow.weights import greatest_weights, heaviest, heaviest_of, weights_show
from plainly import (
    a_row, all_rows, all_sets, blocks_row, clash, large_row, rule_of_papers, small_rows, some_weights, weight_of,
    weights_plainly, within,
)
from refusing import RefusalTest

FAR = 10 ** 29
GREATEST = 10 ** 30 - 1
WRONG_NUMBERS = [
    ((0, []), [0]),
    ((3, []), [1]),
    ((2, [(0, 1)]), []),
    ((2, [(0, 1)]), [1, 2]),
    ((4, [(0, 1), (2, 3)]), [1]),
    ((4, [(0, 1), (2, 3)]), [1, 2, 3]),
    ((4, [(0, 1), (2, 3)]), [0] * 300),
]


def weighed_rows():
    """Small rows with weights of several sorts: few unlike ones, so that sums are often the same, and great ones."""
    for seed, row in enumerate(small_rows()):
        yield row, [0] * len(row[1])
        for low, high in [(0, 1), (-1, 1), (-2, 3), (1, 2), (-3, -1), (-GREATEST, GREATEST)]:
            yield row, some_weights(seed, row, low, high)


def rows_with_many_splits():
    """Rows of more points, where ties can be shared out beneath and behind in many ways."""
    for seed in range(6):
        row = a_row(seed, 12, 24)
        for low, high in [(0, 0), (0, 1), (-1, 0), (-1, 1)]:
            yield row, some_weights(seed, row, low, high)


def heaviest_plainly(row, weights):
    """The heaviest set by listing all."""
    weight, size, held = min((-weight_of(row, weights, held), len(held), held) for held in all_sets(row))
    return (-weight, held)


def heaviest_by_size(row, weights):
    """For each number of ties the heaviest set by listing all."""
    best = {}
    for held in all_sets(row):
        found = (-weight_of(row, weights, held), held)
        best[len(held)] = min(best.get(len(held), found), found)
    return [(-best[size][0], best[size][1]) for size in range(len(best))]


def heaviest_by_taking(row, weights):
    """The heaviest set of a great row: each tie in turn is taken where the best can still be had."""

    def best(ties):
        some = [by_tie[tie] for tie in ties]
        return max((weight, -size) for size, weight in enumerate(weights_plainly((row[0], ties), some)))

    by_tie = dict(zip(row[1], weights))
    greatest = best(row[1])
    held = []
    left = list(row[1])
    while left:
        tie = left.pop(0)
        rest = [other for other in left if not clash(tie, other)]
        weight, less = best(rest)
        sums = sum(by_tie[other] for other in held) + by_tie[tie] + weight
        if (sums, less - len(held) - 1) == greatest:
            held.append(tie)
            left = rest
    return (greatest[0], held)


class HeaviestTest(RefusalTest):
    def test_by_hand(self):
        self.assertEqual(heaviest((2, [(0, 1)]), [7]), (7, [(0, 1)]))
        self.assertEqual(heaviest((4, [(0, 2), (1, 3)]), [4, 5]), (5, [(1, 3)]))
        self.assertEqual(heaviest((4, [(0, 3), (1, 2)]), [4, 5]), (9, [(0, 3), (1, 2)]))
        self.assertEqual(heaviest((4, [(0, 3), (1, 2)]), [-4, 5]), (5, [(1, 2)]))
        self.assertEqual(heaviest((4, [(0, 1), (1, 2), (2, 3)]), [3, 7, 3]), (7, [(1, 2)]))

    def test_of_the_heaviest_the_fewest_ties(self):
        row = (4, [(0, 1), (0, 3), (2, 3)])
        self.assertEqual(heaviest(row, [2, 5, 3]), (5, [(0, 3)]))
        self.assertEqual(heaviest(row, [2, 4, 3]), (5, [(0, 1), (2, 3)]))
        self.assertEqual(heaviest(row, [5, 1, 0]), (5, [(0, 1)]))
        self.assertEqual(heaviest(row, [0, 1, 5]), (5, [(2, 3)]))
        self.assertEqual(heaviest((6, [(0, 1), (2, 5), (3, 4)]), [0, 3, 0]), (3, [(2, 5)]))

    def test_of_these_the_first_as_lists(self):
        self.assertEqual(heaviest((4, [(0, 2), (1, 3)]), [4, 4]), (4, [(0, 2)]))
        self.assertEqual(heaviest((4, [(0, 1), (2, 3)]), [4, 0]), (4, [(0, 1)]))
        self.assertEqual(heaviest((5, [(0, 1), (0, 2), (1, 2), (3, 4)]), [1, 1, 1, 1]), (2, [(0, 1), (3, 4)]))
        self.assertEqual(heaviest((5, [(0, 2), (0, 4), (1, 2), (3, 4)]), [2, 1, 3, 3]), (6, [(1, 2), (3, 4)]))

    def test_no_sum_above_0(self):
        self.assertEqual(heaviest((0, []), []), (0, []))
        self.assertEqual(heaviest((5, []), []), (0, []))
        self.assertEqual(heaviest((4, [(0, 1), (2, 3)]), [0, 0]), (0, []))
        self.assertEqual(heaviest((4, [(0, 1), (2, 3)]), [-1, 0]), (0, []))
        self.assertEqual(heaviest((4, [(0, 1), (2, 3)]), [-GREATEST, -1]), (0, []))

    def test_thirty_figures(self):
        row = (4, [(0, 1), (0, 3), (2, 3)])
        self.assertEqual(heaviest(row, [FAR, 2 * FAR, FAR]), (2 * FAR, [(0, 3)]))
        self.assertEqual(heaviest(row, [FAR, 2 * FAR, FAR + 1]), (2 * FAR + 1, [(0, 1), (2, 3)]))
        self.assertEqual(heaviest(row, [GREATEST, -GREATEST, GREATEST]), (2 * GREATEST, [(0, 1), (2, 3)]))
        self.assertEqual(heaviest(row, [-GREATEST, 1, GREATEST]), (GREATEST, [(2, 3)]))

    def test_small_rows(self):
        for row, weights in weighed_rows():
            self.assertEqual(heaviest(row, weights), heaviest_plainly(row, weights), (row, weights))

    def test_rows_of_twelve_points(self):
        for row, weights in rows_with_many_splits():
            self.assertEqual(heaviest(row, weights), heaviest_plainly(row, weights), (row, weights))

    def test_forty_points_three_hundred_ties(self):
        for row in [large_row(), blocks_row()]:
            for low, high in [(-GREATEST, GREATEST), (-1, 1), (0, 2)]:
                weights = some_weights(5, row, low, high)
                weight, ties = heaviest(row, weights)
                by_size = weights_plainly(row, weights)
                self.assertEqual(weight, max(by_size))
                self.assertEqual(len(ties), by_size.index(weight))
                self.assertIs(is_set(row, ties), True)
                self.assertEqual(weight_of(row, weights, ties), weight)

    def test_the_first_of_a_great_row(self):
        row = a_row(4, 40, 60)
        for low, high in [(0, 1), (-1, 2)]:
            weights = some_weights(1, row, low, high)
            self.assertEqual(heaviest(row, weights), heaviest_by_taking(row, weights))

    def test_each_of_weight_1_is_as_the_most(self):
        for row in [large_row(), blocks_row(), (0, []), (5, [])]:
            self.assertEqual(heaviest(row, [1] * len(row[1])), most_ties(row))

    def test_kinds(self):
        for told in [heaviest((4, [(0, 1), (2, 3)]), [1, 2]), heaviest((0, []), [])]:
            self.assertEqual([type(told), type(told[0]), type(told[1])], [tuple, int, list])
        self.assertIs(type(heaviest((2, [(0, 1)]), [1])[1][0]), tuple)

    def test_no_weights(self):
        for row, weights in WRONG_NUMBERS:
            self.refuses(NoWeights, heaviest, row, weights)


class HeaviestOfTest(RefusalTest):
    def test_by_hand(self):
        row = (4, [(0, 1), (0, 3), (2, 3)])
        self.assertEqual(heaviest_of(row, [2, 5, 3], 0), (0, []))
        self.assertEqual(heaviest_of(row, [2, 5, 3], 1), (5, [(0, 3)]))
        self.assertEqual(heaviest_of(row, [2, 5, 3], 2), (5, [(0, 1), (2, 3)]))
        self.assertIsNone(heaviest_of(row, [2, 5, 3], 3))

    def test_weights_below_0_and_0(self):
        row = (4, [(0, 3), (1, 2), (2, 3)])
        self.assertEqual(heaviest_of(row, [-4, -5, -4], 1), (-4, [(0, 3)]))
        self.assertEqual(heaviest_of(row, [-4, -5, -4], 2), (-9, [(0, 3), (1, 2)]))
        self.assertEqual(heaviest_of(row, [0, 0, 0], 1), (0, [(0, 3)]))
        self.assertEqual(heaviest_of(row, [0, 0, 0], 0), (0, []))
        self.assertEqual(heaviest_of(row, [-GREATEST, -GREATEST, 1], 2), (-2 * GREATEST, [(0, 3), (1, 2)]))

    def test_none_has_so_many(self):
        for row, weights in [((0, []), []), ((1, []), []), ((40, []), [])]:
            self.assertEqual(heaviest_of(row, weights, 0), (0, []))
            for many in (1, 2, 20, 41, FAR, GREATEST):
                self.assertIsNone(heaviest_of(row, weights, many))
        row = (4, [(0, 2), (1, 3)])
        for many in (2, 3, 4, 5, 300, GREATEST):
            self.assertIsNone(heaviest_of(row, [1, 1], many))

    def test_small_rows(self):
        for row, weights in weighed_rows():
            best = heaviest_by_size(row, weights)
            told = [heaviest_of(row, weights, many) for many in range(len(best) + 2)]
            self.assertEqual(told, best + [None, None], (row, weights))

    def test_rows_of_twelve_points(self):
        for row, weights in rows_with_many_splits():
            best = heaviest_by_size(row, weights)
            told = [heaviest_of(row, weights, many) for many in range(len(best) + 1)]
            self.assertEqual(told, best + [None], (row, weights))

    def test_forty_points_three_hundred_ties(self):
        row = large_row()
        weights = some_weights(6, row, -GREATEST, GREATEST)
        greatest = weights_plainly(row, weights)
        for many in range(len(greatest)):
            weight, ties = heaviest_of(row, weights, many)
            self.assertEqual((weight, len(ties)), (greatest[many], many))
            self.assertIs(is_set(row, ties), True)
            self.assertEqual(weight_of(row, weights, ties), weight)
        self.assertIsNone(heaviest_of(row, weights, len(greatest)))

    def test_the_most_ties_of_a_great_row(self):
        for row in [large_row(), blocks_row()]:
            number, ties = most_ties(row)
            self.assertEqual(heaviest_of(row, [0] * 300, number), (0, ties))
            self.assertEqual(heaviest_of(row, [-3] * 300, number), (-3 * number, ties))
            self.assertIsNone(heaviest_of(row, [0] * 300, number + 1))

    def test_kinds(self):
        for many in (0, 1):
            told = heaviest_of((2, [(0, 1)]), [0], many)
            self.assertEqual([type(told), type(told[0]), type(told[1])], [tuple, int, list])

    def test_no_number(self):
        for many in (-1, -2, -FAR, -GREATEST):
            self.refuses(NoNumber, heaviest_of, (0, []), [], many)
            self.refuses(NoNumber, heaviest_of, (2, [(0, 1)]), [1], many)

    def test_no_weights_goes_ahead(self):
        for row, weights in WRONG_NUMBERS:
            for many in (-GREATEST, -1, 0, 1, 5, GREATEST):
                self.refuses(NoWeights, heaviest_of, row, weights, many)


class GreatestWeightsTest(RefusalTest):
    def test_by_hand(self):
        self.assertEqual(greatest_weights((0, []), []), [0])
        self.assertEqual(greatest_weights((7, []), []), [0])
        self.assertEqual(greatest_weights((2, [(0, 1)]), [-5]), [0, -5])
        self.assertEqual(greatest_weights((4, [(0, 1), (0, 3), (2, 3)]), [2, 6, 3]), [0, 6, 5])
        self.assertEqual(greatest_weights((4, [(0, 2), (1, 3)]), [0, 0]), [0, 0])

    def test_small_rows(self):
        for row, weights in weighed_rows():
            best = [weight for weight, held in heaviest_by_size(row, weights)]
            self.assertEqual(greatest_weights(row, weights), best, (row, weights))

    def test_forty_points_three_hundred_ties(self):
        for row in [large_row(), blocks_row()]:
            for low, high in [(-GREATEST, GREATEST), (-3, 3)]:
                weights = some_weights(7, row, low, high)
                told = greatest_weights(row, weights)
                self.assertEqual(told, weights_plainly(row, weights))
                self.assertEqual(max(told), heaviest(row, weights)[0])
                self.assertEqual(len(told), most_ties(row)[0] + 1)

    def test_kinds(self):
        told = greatest_weights((4, [(0, 1), (2, 3)]), [0, 1])
        self.assertIs(type(told), list)
        self.assertEqual([type(weight) for weight in told], [int] * 3)

    def test_no_weights(self):
        for row, weights in WRONG_NUMBERS:
            self.refuses(NoWeights, greatest_weights, row, weights)


def table_plainly(row, weights):
    """The greatest weight of each stretch."""
    by_tie = dict(zip(row[1], weights))
    table = []
    for i in range(row[0] + 1):
        table.append([])
        for j in range(i, row[0] + 1):
            part = within(row, i, j)
            table[i].append(max(weights_plainly(part, [by_tie[tie] for tie in part[1]])))
    return table


def changed(table, i, place, number):
    """The table with one number changed by so much."""
    paper = [list(numbers) for numbers in table]
    paper[i][place] += number
    return paper


class PaperTest(RefusalTest):
    def test_the_greatest_weights_are_let_by(self):
        for row, weights in weighed_rows():
            if row[0] < 7:
                self.assertIs(weights_show(row, weights, table_plainly(row, weights)), True, (row, weights))

    def test_a_number_one_less(self):
        for row in [(0, []), (1, []), (2, [(0, 1)]), (6, [(0, 5), (1, 2), (2, 3), (3, 4)]), a_row(3, 7, 12)]:
            for low, high in [(-1, 2), (5, 9), (-9, -5), (-GREATEST, GREATEST)]:
                weights = some_weights(2, row, low, high)
                table = table_plainly(row, weights)
                for i, numbers in enumerate(table):
                    for place in range(len(numbers)):
                        paper = changed(table, i, place, -1)
                        self.assertIs(weights_show(row, weights, paper), False, (row, weights, i, place))

    def test_the_weight_stands_in_the_place_of_1(self):
        row = (2, [(0, 1)])
        for weight in (1, 2, 3, 10, GREATEST):
            self.assertIs(weights_show(row, [weight], [[0, 0, weight], [0, 0], [0]]), True)
            self.assertIs(weights_show(row, [weight], [[0, 0, weight + 1], [0, 0], [0]]), True)
            self.assertIs(weights_show(row, [weight], [[0, 0, weight - 1], [0, 0], [0]]), False)
            self.assertIs(weights_show(row, [weight], [[0, 1, weight + 1], [1, 0], [0]]), True)
            self.assertIs(weights_show(row, [weight], [[0, 1, weight], [1, 0], [0]]), False)
            self.assertIs(weights_show(row, [weight], [[0, 0, weight + 1], [0, 1], [1]]), True)
            self.assertIs(weights_show(row, [weight], [[0, 0, weight], [0, 1], [1]]), False)

    def test_weights_below_0_and_0(self):
        row = (2, [(0, 1)])
        for weight in (0, -1, -7, -GREATEST):
            self.assertIs(weights_show(row, [weight], [[0, 0, 0], [0, 0], [0]]), True)
            self.assertIs(weights_show(row, [weight], [[0, 0, -1], [0, 0], [0]]), False)
            self.assertIs(weights_show(row, [weight], [[0, 0, weight - 1], [0, 0], [0]]), False)
        self.assertIs(weights_show(row, [-1], [[0, 1, 0], [1, 0], [0]]), True)
        self.assertIs(weights_show(row, [0], [[0, 1, 0], [1, 0], [0]]), False)
        self.assertIs(weights_show(row, [-1], [[0, 1, 1], [1, 1], [1]]), True)
        self.assertIs(weights_show(row, [0], [[0, 1, 1], [1, 1], [1]]), False)

    def test_a_number_below_0(self):
        self.assertIs(weights_show((0, []), [], [[-1]]), False)
        self.assertIs(weights_show((1, []), [], [[0, 0], [-1]]), False)
        self.assertIs(weights_show((1, []), [], [[-1, 0], [0]]), False)
        self.assertIs(weights_show((1, []), [], [[-10 ** 39, 0], [0]]), False)
        self.assertIs(weights_show((2, [(0, 1)]), [-5], [[-1, -1, -1], [-1, -1], [-1]]), False)

    def test_less_than_the_stretch_without_its_first_point(self):
        self.assertIs(weights_show((2, [(0, 1)]), [-5], [[0, 0, 1], [0, 1], [1]]), True)
        self.assertIs(weights_show((2, [(0, 1)]), [-5], [[0, 0, 0], [0, 1], [1]]), False)
        self.assertIs(weights_show((2, [(0, 1)]), [-5], [[0, 0, 1], [0, 0], [1]]), False)
        self.assertIs(weights_show((2, [(0, 1)]), [-5], [[0, 0, 9], [1, 9], [0]]), False)

    def test_other_shapes(self):
        row = (2, [(0, 1)])
        fine = [[0, 0, 3], [0, 0], [0]]
        self.assertIs(weights_show(row, [3], fine), True)
        others = [
            [], [[]], [[], [], []], fine[1:], fine[:2], fine[:1], fine + [[0]], fine + [[]], [[0, 0, 0, 3]] + fine,
            [[0, 0], [0, 0], [0]], [[0, 0, 3], [0], [0]], [[0, 0, 3], [0, 0], []], [[], [0, 0], [0]],
            [[0, 0, 3, 3], [0, 0], [0]], [[0, 0, 3], [0, 0, 0], [0]], [[0, 0, 3], [0, 0], [0, 0]],
            fine[::-1], [[0, 0, 3], [0], [0, 0]], [[0, 0, 3]] * 3, [[0], [0, 0], [0, 0, 3]],
        ]
        for paper in others:
            self.assertIs(weights_show(row, [3], paper), False, paper)
            self.assertIs(weights_show(row, [-3], paper), False, paper)
        self.assertIs(weights_show((0, []), [], []), False)
        self.assertIs(weights_show((0, []), [], [[]]), False)
        self.assertIs(weights_show((0, []), [], [[0], [0]]), False)

    def test_numbers_of_forty_figures(self):
        far = 10 ** 39
        self.assertIs(weights_show((2, [(0, 1)]), [FAR], [[0, far, 2 * far + FAR], [far, far], [far]]), True)
        self.assertIs(weights_show((2, [(0, 1)]), [FAR], [[0, far, 2 * far + FAR - 1], [far, far], [far]]), False)
        self.assertIs(weights_show((2, [(0, 1)]), [-FAR], [[0, far, 2 * far - FAR], [far, far], [far]]), True)
        self.assertIs(weights_show((2, [(0, 1)]), [-FAR], [[0, far, 2 * far - FAR - 1], [far, far], [far]]), False)

    def test_all_papers_of_two_points(self):
        for weight in (-2, -1, 0, 1, 2):
            row = (2, [(0, 1)])
            for a, b, c, d, e, f in product(range(-1, 3), repeat=6):
                paper = [[a, b, c], [d, e], [f]]
                self.assertIs(weights_show(row, [weight], paper), rule_of_papers(row, paper, [weight]), (paper, weight))

    def test_papers_near_the_table(self):
        for row, weights in weighed_rows():
            if row[0] > 4:
                continue
            table = table_plainly(row, weights)
            for i, numbers in enumerate(table):
                for place in range(len(numbers)):
                    for number in (1, 2):
                        paper = changed(table, i, place, number)
                        let_by = rule_of_papers(row, paper, weights)
                        self.assertIs(weights_show(row, weights, paper), let_by, (row, weights, paper))

    def test_each_of_weight_1_is_as_in_10(self):
        for row in [large_row(), blocks_row(), a_row(3, 8, 14)]:
            table = table_of(row)
            ones = [1] * len(row[1])
            self.assertIs(weights_show(row, ones, table), True)
            self.assertIs(weights_show(row, [2] + ones[1:], table), rule_of_papers(row, table, [2] + ones[1:]))
            for place in range(row[0] + 1):
                paper = changed(table, 0, place, -1)
                self.assertIs(weights_show(row, ones, paper), paper_shows(row, paper))

    def test_forty_points_three_hundred_ties(self):
        row = large_row()
        weights = some_weights(8, row, -GREATEST, GREATEST)
        paper = [[0] for i in range(41)]
        by_tie = dict(zip(row[1], weights))
        for i in range(39, -1, -1):
            for j in range(i + 1, 41):
                tied = [by_tie[i, k] + paper[i + 1][k - i - 1] + paper[k + 1][j - k - 1]
                        for k in range(i + 1, j) if (i, k) in by_tie]
                paper[i].append(max(tied + [paper[i + 1][j - i - 1]]))
        self.assertEqual(paper[0][40], heaviest(row, weights)[0])
        self.assertIs(weights_show(row, weights, paper), True)
        self.assertIs(weights_show(row, weights, changed(paper, 0, 40, -1)), False)
        self.assertIs(weights_show(row, weights, changed(paper, 0, 40, 1)), True)

    def test_no_weights(self):
        for row, weights in WRONG_NUMBERS:
            fine = [[9] * (row[0] + 1 - i) for i in range(row[0] + 1)]
            for paper in [fine, [], [[]], [[-1]], [[0], [0, 0]]]:
                self.refuses(NoWeights, weights_show, row, weights, paper)


class WholePromiseTest(unittest.TestCase):
    def test_no_set_weighs_more_than_told(self):
        for row, weights in weighed_rows():
            weight, ties = heaviest(row, weights)
            self.assertIs(is_set(row, ties), True)
            self.assertEqual(weight_of(row, weights, ties), weight)
            self.assertEqual(weight, max(weight_of(row, weights, held) for held in all_sets(row)))

    def test_no_set_weighs_more_than_a_paper_let_by_tells(self):
        for row in all_rows(3):
            for weights in product((-1, 1, 2), repeat=len(row[1])):
                most = max(weight_of(row, weights, held) for held in all_sets(row))
                for a, b, c, d, e, f in product(range(3), repeat=6):
                    paper = [[0, a, b, c], [0, d, e], [0, f], [0]]
                    if weights_show(row, list(weights), paper):
                        self.assertGreaterEqual(paper[0][3], most, (row, weights, paper))


if __name__ == "__main__":
    unittest.main()
