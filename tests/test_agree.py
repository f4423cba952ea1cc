"""Point 4: what the stages tell of one row agrees."""

import unittest
from random import Random

from archrow.arcs import first_fault, is_set, row_of
from archrow.counted import by_size, count_sets, count_with, how_many_begin, next_set, set_at, set_number
from archrow.desk import Desk
from archrow.joined import row_turned, rows_joined, set_turned
from archrow.kept import always_tied, how_many_most, most_of, most_ties, paper_shows, table_of
from archrow.kinds import most_of_kinds, most_with, row_of_kinds
from archrow.shapes import count_shape, depths_of, nest_of, shape_of, stretches_of
from archrow.texts import brackets, read_brackets, read_row, show_row
from archrow.weights import greatest_weights, heaviest, heaviest_of, weights_show
from archrow.whole import count_whole, fewest_cuts, longest_whole, whole_set
from plainly import a_row, all_sets, all_shapes, blocks_row, large_row, shape_plainly, small_rows


def rows():
    """Small rows, some of twenty points, and rows of forty points with three hundred ties."""
    yield from small_rows()
    for seed in range(6):
        yield a_row(seed, 20, 30 + 25 * seed)
    yield large_row()
    yield blocks_row()
    yield (40, [(k, 39 - k) for k in range(20)])
    yield (40, [])


class OneRowTest(unittest.TestCase):
    def test_the_most(self):
        for row in rows():
            many, ties = row
            number, found = most_ties(row)
            ones = [1] * len(ties)
            self.assertIsNone(first_fault(row, found))
            self.assertEqual(len(found), number)
            self.assertEqual(table_of(row)[0][many], number)
            self.assertEqual(most_of(row, 0, many), (number, found))
            self.assertEqual(heaviest(row, ones), (number, found))
            self.assertEqual(heaviest_of(row, ones, number), (number, found))
            self.assertIsNone(heaviest_of(row, ones, number + 1))
            self.assertEqual(greatest_weights(row, ones), list(range(number + 1)))
            self.assertEqual(len(by_size(row)), number + 1)
            self.assertEqual(by_size(row)[number], how_many_most(row))
            self.assertEqual(len(shape_of(row, found)), 2 * number)
            self.assertIs(paper_shows(row, table_of(row)), True)
            self.assertIs(weights_show(row, ones, table_of(row)), True)
            tied = {point for tie in found for point in tie}
            always, never = always_tied(row)
            self.assertTrue(set(always) <= tied and not set(never) & tied)

    def test_the_counts(self):
        for row in rows():
            self.assertEqual(sum(by_size(row)), count_sets(row))
            self.assertEqual(how_many_begin(row, []), count_sets(row))
            ties_in_all = sum(size * count for size, count in enumerate(by_size(row)))
            self.assertEqual(sum(count_with(row, tie) for tie in row[1]), ties_in_all)
            self.assertEqual(count_shape(row, ""), by_size(row)[0])
            self.assertEqual(count_shape(row, "()"), len(row[1]))
            last = set_at(row, count_sets(row) - 1)
            self.assertIsNone(next_set(row, last))
            self.assertEqual(set_number(row, last), count_sets(row) - 1)

    def test_whole_sets(self):
        for row in rows():
            many = row[0]
            number, found = most_ties(row)
            whole = 2 * number == many
            self.assertEqual(whole_set(row), found if whole else None)
            self.assertEqual(count_whole(row), how_many_most(row) if whole else 0)
            self.assertEqual(longest_whole(row) == (0, many), whole or many == 0)
            self.assertEqual(len(fewest_cuts(row)) <= 1, whole or many <= 1)
            if many % 2 == 0:
                self.assertEqual(always_tied(row)[0] == list(range(many)), whole)

    def test_the_desk(self):
        for row in rows():
            number, found = most_ties(row)
            desk = Desk()
            self.assertEqual(desk.say(f"row {show_row(row)}"), f"points {row[0]}")
            self.assertEqual(desk.say("most").split(" ")[0], str(number))
            self.assertEqual(desk.say("most").split(" ")[1:], show_row((row[0], found)).split(" ")[1:])
            self.assertEqual(desk.say("sets"), str(count_sets(row)))
            self.assertEqual(desk.say("still"), str(number))
            self.assertEqual(desk.say("whole") == "yes", whole_set(row) is not None)
            half = count_sets(row) // 2
            self.assertEqual(read_brackets(desk.say(f"set {half}")), (row[0], set_at(row, half)))
            self.assertEqual(desk.say(f"number {brackets(row[0], found)}"), str(set_number(row, found)))


class SetsTest(unittest.TestCase):
    def test_brackets_and_sets_lead_to_one_another(self):
        for row in rows():
            count = count_sets(row)
            for number in sorted({0, count // 3, count // 2, count - 1}):
                ties = set_at(row, number)
                text = brackets(row[0], ties)
                self.assertEqual(read_brackets(text), (row[0], ties))
                self.assertEqual(text.replace(".", ""), shape_of(row, ties))
                self.assertEqual(brackets(row[0], set_turned(row, ties)), text[::-1].translate({40: 41, 41: 40}))
                self.assertIs(is_set(row, ties), True)

    def test_all_shapes_of_a_small_row_together(self):
        for row in small_rows():
            met = {shape_plainly(row, ties) for ties in all_sets(row)}
            self.assertEqual(sum(count_shape(row, shape) for shape in sorted(met)), count_sets(row), row)
            every = [shape for number in range(6) for shape in all_shapes(number)]
            self.assertEqual({shape for shape in every if count_shape(row, shape)}, met)

    def test_nests_and_stretches(self):
        for row in rows():
            ties = most_ties(row)[1]
            outer = nest_of(row, ties).count(None)
            self.assertEqual(depths_of(row, ties).count(1), outer)
            parts = stretches_of(row, ties)
            self.assertEqual(len(parts), 2 * outer + 1)
            # Nothing more fits anywhere, so the parts have the most of their own.
            self.assertEqual(outer + sum(most_of(row, i, j)[0] for i, j in parts), len(ties))
            self.assertEqual([most_of(row, i, j)[0] for i, j in parts[:outer + 1]], [0] * (outer + 1))


class KindsTest(unittest.TestCase):
    def test_all_is_as_with_the_ties_that_the_kinds_let(self):
        chance = Random(8)
        for step in range(60):
            many = chance.choice([0, 1, 2, 5, 8, 9, 16, 24])
            kinds = [chance.randint(-2, 4) for point in range(many)]
            pairs = [(chance.randint(-2, 4), chance.randint(-2, 4)) for pair in range(chance.randint(0, 9))]
            gap = chance.choice([0, 0, 1, 2, 10 ** 29])
            fits = [set(pair) for pair in pairs]
            ties = [
                (b, a) for a in range(many) for b in range(a + gap + 1, many) if {kinds[a], kinds[b]} in fits
            ] if gap < many else []
            row = row_of(many, ties)
            self.assertEqual(row_of_kinds(kinds, pairs, gap), row)
            self.assertEqual(most_of_kinds(kinds, pairs, gap), most_ties(row))
            self.assertEqual(most_with(kinds, pairs, gap, many, 99), most_ties(row)[0])
            self.assertEqual(read_row(show_row(row)), row_of_kinds(kinds, pairs, gap))


class JoinedTest(unittest.TestCase):
    def test_the_most_of_both_is_the_sum_whichever_stage_tells_it(self):
        for one in [(0, []), (3, []), a_row(1, 7, 9), large_row()]:
            for other in [(0, []), (2, [(0, 1)]), a_row(2, 8, 12), blocks_row()]:
                row = rows_joined(one, other)
                number = most_ties(one)[0] + most_ties(other)[0]
                self.assertEqual(most_ties(row)[0], number)
                self.assertEqual(len(by_size(row)), number + 1)
                self.assertEqual(how_many_most(row), how_many_most(one) * how_many_most(other))
                self.assertEqual(count_whole(row), count_whole(one) * count_whole(other))
                self.assertEqual(most_ties(row_turned(row))[0], number)


if __name__ == "__main__":
    unittest.main()
