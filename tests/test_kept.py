import unittest
from itertools import product
from random import Random

from archrow.arcs import is_set
from archrow.errors import NoStretch
from archrow.kept import always_tied, how_many_most, most_of, most_ties, paper_shows, table_of
from plainly import (
    a_row, all_rows, best_sets, blocks_row, first_best, large_row, most_and_count, rule_of_papers, small_rows, within,
)

FAR = 10 ** 29


class MostTest(unittest.TestCase):
    def test_by_hand(self):
        self.assertEqual(most_ties((0, [])), (0, []))
        self.assertEqual(most_ties((5, [])), (0, []))
        self.assertEqual(most_ties((2, [(0, 1)])), (1, [(0, 1)]))
        self.assertEqual(most_ties((4, [(0, 2), (1, 3)])), (1, [(0, 2)]))
        self.assertEqual(most_ties((4, [(0, 3), (1, 2)])), (2, [(0, 3), (1, 2)]))
        self.assertEqual(most_ties((4, [(0, 1), (0, 3), (1, 2), (2, 3)])), (2, [(0, 1), (2, 3)]))

    def test_the_most_goes_ahead_of_the_first(self):
        self.assertEqual(most_ties((5, [(0, 3), (1, 2), (2, 4), (3, 4)])), (2, [(0, 3), (1, 2)]))
        self.assertEqual(most_ties((5, [(0, 2), (1, 2), (1, 3), (3, 4)])), (2, [(0, 2), (3, 4)]))
        self.assertEqual(most_ties((6, [(0, 3), (1, 2), (3, 4)])), (2, [(0, 3), (1, 2)]))
        self.assertEqual(most_ties((7, [(0, 3), (1, 4), (2, 3), (5, 6)])), (3, [(1, 4), (2, 3), (5, 6)]))

    def test_all_rows_of_five_points(self):
        for row in all_rows(5):
            best = best_sets(row)
            self.assertEqual(most_ties(row), (len(best[0]), best[0]), row)

    def test_small_rows(self):
        for row in small_rows():
            best = best_sets(row)
            self.assertEqual(most_ties(row), (len(best[0]), best[0]), row)

    def test_kinds(self):
        told = most_ties((4, [(0, 1), (2, 3)]))
        self.assertEqual([type(told), type(told[0]), type(told[1]), type(told[1][0])], [tuple, int, list, tuple])
        self.assertIs(type(most_ties((0, []))[0]), int)

    def test_forty_points_three_hundred_ties(self):
        ring = [(35, 36), (37, 38)]
        pairs = [(k, k + 1) for k in range(0, 34, 2)]
        self.assertEqual(most_ties(blocks_row()), (19, pairs + ring))
        row = large_row()
        self.assertEqual((row[0], len(row[1])), (40, 300))
        number, ties = most_ties(row)
        self.assertEqual(number, most_and_count(row)[0])
        self.assertEqual(ties, first_best(row))

    def test_nests_as_deep_as_can_be(self):
        row = (40, [(k, 39 - k) for k in range(20)])
        self.assertEqual(most_ties(row), (20, row[1]))


class StretchTest(unittest.TestCase):
    def test_by_hand(self):
        row = (6, [(0, 5), (1, 2), (1, 3), (2, 4), (3, 4)])
        self.assertEqual(most_of(row, 0, 6), (3, [(0, 5), (1, 2), (3, 4)]))
        self.assertEqual(most_of(row, 1, 5), (2, [(1, 2), (3, 4)]))
        self.assertEqual(most_of(row, 1, 4), (1, [(1, 2)]))
        self.assertEqual(most_of(row, 2, 5), (1, [(2, 4)]))
        self.assertEqual(most_of(row, 2, 4), (0, []))

    def test_all_stretches_of_small_rows(self):
        for row in small_rows():
            table = table_of(row)
            for i in range(row[0] + 1):
                for j in range(i, row[0] + 1):
                    first = best_sets(within(row, i, j))[0]
                    self.assertEqual(most_of(row, i, j), (len(first), first), (row, i, j))
                    self.assertEqual(table[i][j - i], len(first), (row, i, j))

    def test_empty_stretches(self):
        row = (3, [(0, 1), (0, 2), (1, 2)])
        for i in range(4):
            self.assertEqual(most_of(row, i, i), (0, []))
        self.assertEqual(most_of((0, []), 0, 0), (0, []))

    def test_the_whole_row(self):
        for row in [large_row(), blocks_row(), (0, []), (7, [])]:
            self.assertEqual(most_of(row, 0, row[0]), most_ties(row))

    def test_kinds(self):
        told = most_of((4, [(0, 1), (2, 3)]), 1, 4)
        self.assertEqual([type(told), type(told[0]), type(told[1]), type(told[1][0])], [tuple, int, list, tuple])

    def test_no_stretch(self):
        wrong = [(-1, 2), (-1, -1), (2, 1), (3, 0), (0, 4), (3, 4), (4, 4), (0, -1)]
        wrong += [(-FAR, 3), (0, FAR), (FAR, FAR), (FAR, 0), (-FAR, FAR), (0, -FAR), (FAR, FAR + 1)]
        for i, j in wrong:
            with self.assertRaises(NoStretch) as caught:
                most_of((3, [(0, 1)]), i, j)
            self.assertIs(type(caught.exception), NoStretch)
        with self.assertRaises(NoStretch):
            most_of((0, []), 0, 1)


class TableTest(unittest.TestCase):
    def test_by_hand(self):
        self.assertEqual(table_of((0, [])), [[0]])
        self.assertEqual(table_of((1, [])), [[0, 0], [0]])
        self.assertEqual(table_of((2, [(0, 1)])), [[0, 0, 1], [0, 0], [0]])
        self.assertEqual(
            table_of((4, [(0, 3), (1, 2)])),
            [[0, 0, 0, 1, 2], [0, 0, 1, 1], [0, 0, 0], [0, 0], [0]],
        )

    def test_shape_and_kinds(self):
        for row in [(0, []), (1, []), (5, [(0, 4)]), large_row(), blocks_row()]:
            table = table_of(row)
            self.assertIs(type(table), list)
            self.assertEqual([len(numbers) for numbers in table], list(range(row[0] + 1, 0, -1)))
            self.assertTrue(all(type(numbers) is list for numbers in table))
            self.assertTrue(all(type(number) is int for numbers in table for number in numbers))

    def test_large(self):
        row = large_row()
        table = table_of(row)
        for i, j in [(0, 40), (0, 20), (13, 31), (20, 40), (39, 40), (1, 39)]:
            self.assertEqual(table[i][j - i], most_and_count(within(row, i, j))[0])


def changed(table, i, place, number):
    """The table with one number changed by so much."""
    paper = [list(numbers) for numbers in table]
    paper[i][place] += number
    return paper


class PaperTest(unittest.TestCase):
    def test_the_table_is_let_by(self):
        for row in small_rows():
            self.assertIs(paper_shows(row, table_of(row)), True, row)
        self.assertIs(paper_shows(large_row(), table_of(large_row())), True)
        self.assertIs(paper_shows(blocks_row(), table_of(blocks_row())), True)

    def test_a_number_one_less(self):
        for row in [(0, []), (1, []), (2, [(0, 1)]), (6, [(0, 5), (1, 2), (3, 4), (2, 3)]), a_row(3, 8, 14)]:
            table = table_of(row)
            for i, numbers in enumerate(table):
                for place in range(len(numbers)):
                    self.assertIs(paper_shows(row, changed(table, i, place, -1)), False, (row, i, place))

    def test_a_number_below_0(self):
        self.assertIs(paper_shows((0, []), [[-1]]), False)
        self.assertIs(paper_shows((1, []), [[0, 0], [-1]]), False)
        self.assertIs(paper_shows((1, []), [[-1, 0], [0]]), False)
        self.assertIs(paper_shows((1, []), [[0, -1], [-1]]), False)
        self.assertIs(paper_shows((2, [(0, 1)]), [[-10 ** 39, 0, 1], [0, 0], [0]]), False)

    def test_more_than_need_be(self):
        self.assertIs(paper_shows((0, []), [[7]]), True)
        self.assertIs(paper_shows((2, [(0, 1)]), [[0, 0, 5], [0, 5], [1]]), True)
        self.assertIs(paper_shows((2, [(0, 1)]), [[0, 5, 1], [0, 0], [0]]), True)
        self.assertIs(paper_shows((2, [(0, 1)]), [[0, 5, 1], [1, 0], [0]]), False)
        self.assertIs(paper_shows((2, [(0, 1)]), [[0, 5, 2], [1, 0], [0]]), True)

    def test_less_than_the_stretch_without_its_first_point(self):
        self.assertIs(paper_shows((2, []), [[0, 0, 1], [0, 1], [1]]), True)
        self.assertIs(paper_shows((2, []), [[0, 0, 0], [0, 1], [1]]), False)
        self.assertIs(paper_shows((2, []), [[0, 0, 1], [0, 0], [1]]), False)
        self.assertIs(paper_shows((2, []), [[0, 0, 9], [1, 9], [0]]), False)

    def test_other_shapes(self):
        row = (2, [(0, 1)])
        fine = [[0, 0, 1], [0, 0], [0]]
        self.assertIs(paper_shows(row, fine), True)
        others = [
            [], [[]], [[], [], []], fine[1:], fine[:2], fine[:1], fine + [[0]], fine + [[]], [[0, 0, 0, 1]] + fine,
            [[0, 0], [0, 0], [0]], [[0, 0, 1], [0], [0]], [[0, 0, 1], [0, 0], []], [[], [0, 0], [0]],
            [[0, 0, 1, 1], [0, 0], [0]], [[0, 0, 1], [0, 0, 0], [0]], [[0, 0, 1], [0, 0], [0, 0]],
            fine[::-1], [[0, 0, 1], [0], [0, 0]], [[0, 0, 1]] * 3, [[0], [0, 0], [0, 0, 1]],
        ]
        for paper in others:
            self.assertIs(paper_shows(row, paper), False, paper)
        self.assertIs(paper_shows((0, []), []), False)
        self.assertIs(paper_shows((0, []), [[]]), False)
        self.assertIs(paper_shows((0, []), [[0], [0]]), False)

    def test_numbers_of_forty_figures(self):
        far = 10 ** 39
        self.assertIs(paper_shows((2, [(0, 1)]), [[0, far, 2 * far + 1], [far, far], [far]]), True)
        self.assertIs(paper_shows((2, [(0, 1)]), [[0, far, 2 * far], [far, far], [far]]), False)
        self.assertIs(paper_shows((2, []), [[0, far, far], [far, far], [far]]), True)
        self.assertIs(paper_shows((2, []), [[0, far, far - 1], [far, far], [far]]), False)
        self.assertIs(paper_shows((0, []), [[far]]), True)
        self.assertIs(paper_shows((0, []), [[-far]]), False)

    def test_all_papers_of_two_points(self):
        for row in [(2, []), (2, [(0, 1)])]:
            for a, b, c, d, e, f in product(range(-1, 3), repeat=6):
                paper = [[a, b, c], [d, e], [f]]
                self.assertIs(paper_shows(row, paper), rule_of_papers(row, paper), (row, paper))

    def test_papers_near_the_table(self):
        for row in small_rows():
            if row[0] > 6:
                continue
            table = table_of(row)
            for i, numbers in enumerate(table):
                for place in range(len(numbers)):
                    for number in (1, 2):
                        paper = changed(table, i, place, number)
                        self.assertIs(paper_shows(row, paper), rule_of_papers(row, paper), (row, paper))


class AlwaysTest(unittest.TestCase):
    def test_by_hand(self):
        self.assertEqual(always_tied((2, [(0, 1)])), ([0, 1], []))
        self.assertEqual(always_tied((3, [(0, 1), (1, 2)])), ([1], []))
        self.assertEqual(always_tied((4, [(0, 2), (1, 3)])), ([], []))
        self.assertEqual(always_tied((5, [(0, 1), (3, 4)])), ([0, 1, 3, 4], [2]))
        self.assertEqual(always_tied((5, [(0, 3), (1, 2), (2, 4)])), ([0, 1, 2, 3], [4]))

    def test_where_the_most_is_0(self):
        self.assertEqual(always_tied((0, [])), ([], []))
        self.assertEqual(always_tied((1, [])), ([], [0]))
        self.assertEqual(always_tied((40, [])), ([], list(range(40))))

    def test_small_rows(self):
        rows = list(small_rows()) + list(all_rows(5))
        for row in rows:
            tied = [{point for tie in ties for point in tie} for ties in best_sets(row)]
            always = [point for point in range(row[0]) if all(point in points for points in tied)]
            never = [point for point in range(row[0]) if not any(point in points for points in tied)]
            self.assertEqual(always_tied(row), (always, never), row)

    def test_large(self):
        self.assertEqual(always_tied(blocks_row()), (list(range(20)), []))
        row = large_row()
        most, count = most_and_count(row)
        always, never = always_tied(row)
        for point in range(40):
            without = (40, [tie for tie in row[1] if point not in tie])
            self.assertEqual(point in always, most_and_count(without)[0] < most)
            self.assertEqual(point in never, most_and_count(without) == (most, count))

    def test_large_with_some_of_either(self):
        row = (40, [(0, k) for k in range(1, 20)] + [(20, 39), (21, 22), (21, 23)])
        self.assertEqual(always_tied(row), ([0, 20, 21, 39], list(range(24, 39))))

    def test_kinds(self):
        told = always_tied((3, [(0, 1)]))
        self.assertEqual([type(told), type(told[0]), type(told[1])], [tuple, list, list])


class HowManyTest(unittest.TestCase):
    def test_by_hand(self):
        self.assertEqual(how_many_most((0, [])), 1)
        self.assertEqual(how_many_most((9, [])), 1)
        self.assertEqual(how_many_most((2, [(0, 1)])), 1)
        self.assertEqual(how_many_most((3, [(0, 1), (0, 2), (1, 2)])), 3)
        self.assertEqual(how_many_most((4, [(0, 2), (1, 3)])), 2)

    def test_all_pairs(self):
        catalan = [1, 1, 2, 5, 14, 42, 132, 429, 1430, 4862, 16796, 58786, 208012]
        for half, count in enumerate(catalan):
            many = 2 * half
            self.assertEqual(how_many_most((many, [(a, b) for a in range(many) for b in range(a + 1, many)])), count)

    def test_small_rows(self):
        rows = list(small_rows()) + list(all_rows(5))
        for row in rows:
            self.assertEqual(how_many_most(row), len(best_sets(row)), row)

    def test_large(self):
        self.assertEqual(how_many_most(blocks_row()), 16796 * (15 * 429) * 5)
        self.assertEqual(how_many_most(large_row()), most_and_count(large_row())[1])

    def test_kind(self):
        self.assertIs(type(how_many_most((0, []))), int)
        self.assertIs(type(how_many_most((3, [(0, 1), (1, 2)]))), int)


def guessed_paper(row, seed):
    """A paper that mostly tells about as much as it must, now and then too little."""
    many, ties = row
    chance = Random(seed)
    paper = [[chance.randrange(2)] for i in range(many + 1)]
    for i in range(many - 1, -1, -1):
        for j in range(i + 1, many + 1):
            numbers = [paper[i + 1][j - i - 1]]
            numbers += [1 + paper[i + 1][k - i - 1] + paper[k + 1][j - k - 1] for a, k in ties if a == i and k < j]
            paper[i].append(max(numbers) + chance.choice([0] * 20 + [1] * 5 + [-1]))
    return paper


class WholePromiseTest(unittest.TestCase):
    def test_the_set_told_has_the_most_told_and_none_more(self):
        for row in small_rows():
            number, ties = most_ties(row)
            self.assertIs(is_set(row, ties), True)
            self.assertEqual(len(ties), number)
            self.assertEqual(number, max(len(held) for held in best_sets(row)))
            self.assertEqual(table_of(row)[0][row[0]], number)

    def test_the_large_rows_too(self):
        for row in [large_row(), blocks_row()]:
            number, ties = most_ties(row)
            self.assertIs(is_set(row, ties), True)
            self.assertEqual(len(ties), number)
            self.assertIs(rule_of_papers(row, table_of(row)), True)
            self.assertEqual(table_of(row)[0][40], number)

    def test_no_set_has_more_than_a_paper_let_by_tells(self):
        for row in all_rows(3):
            most = len(best_sets(row)[0])
            let_by = 0
            for a, b, c, d, e, f, g, h, i, j in product(range(2), repeat=10):
                paper = [[a, b, c, d], [e, f, g], [h, i], [j]]
                if paper_shows(row, paper):
                    let_by += 1
                    self.assertGreaterEqual(paper[0][3], most, (row, paper))
            self.assertGreater(let_by, 0, row)

    def test_nor_than_one_made_by_guesses(self):
        let_by = 0
        for row in small_rows():
            most = len(best_sets(row)[0])
            for seed in range(8):
                paper = guessed_paper(row, seed)
                self.assertIs(paper_shows(row, paper), rule_of_papers(row, paper), (row, paper))
                if paper_shows(row, paper):
                    let_by += 1
                    self.assertGreaterEqual(paper[0][row[0]], most, (row, paper))
        self.assertGreater(let_by, 300)

    def test_no_stretch_has_more_than_a_paper_let_by_tells(self):
        for row in small_rows():
            many = row[0]
            if 0 < many < 6:
                table = table_of(row)
                for less in product(range(2), repeat=many + 1):
                    paper = [[max(0, number - less[i]) for number in numbers] for i, numbers in enumerate(table)]
                    self.assertIs(paper_shows(row, paper), paper == table, (row, paper))


if __name__ == "__main__":
    unittest.main()
