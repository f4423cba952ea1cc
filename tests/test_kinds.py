import unittest
from itertools import product
from random import Random

from archrow.arcs import is_set, row_of
from archrow.counted import count_sets
from archrow.errors import NoGap, NoPlace
from archrow.kept import most_ties, table_of
from archrow.kinds import best_kinds, most_of_kinds, most_with, row_of_kinds
from archrow.weights import heaviest
from archrow.whole import whole_set
from plainly import all_sets, best_sets, first_best, most_and_count
from refusing import RefusalTest

FAR = 10 ** 29
GREATEST = 10 ** 30 - 1


def row_plainly(kinds, pairs, gap):
    """The row of kinds: every two points are tried."""
    fine = {frozenset(pair) for pair in pairs}
    ties = []
    for b in range(len(kinds)):
        for a in range(b):
            between = len(range(a + 1, b))
            if between >= gap and frozenset((kinds[a], kinds[b])) in fine:
                ties.append((a, b))
    return (len(kinds), sorted(ties))


def most_plainly(kinds, pairs, gap):
    """The most ties of a row of kinds."""
    return most_and_count(row_plainly(kinds, pairs, gap))[0]


def best_plainly(kinds, pairs, gap, place):
    """The best kinds of a point: each is put in its place."""
    numbers = {}
    for kind in sorted(set(kinds) | {either for pair in pairs for either in pair}):
        numbers[kind] = most_plainly(kinds[:place] + [kind] + kinds[place + 1:], pairs, gap)
    most = max(numbers.values())
    return (most, [kind for kind in sorted(numbers) if numbers[kind] == most])


def kinds_and_pairs():
    """Some small rows of kinds, with gaps from 0 to beyond the row."""
    for seed in range(60):
        chance = Random(seed)
        many = seed % 9
        names = chance.sample([-GREATEST, -FAR, -2, -1, 0, 1, 2, 3, FAR, GREATEST], 2 + seed % 4)
        kinds = [chance.choice(names) for point in range(many)]
        pairs = [(chance.choice(names), chance.choice(names + [77])) for k in range(chance.randrange(5))]
        for gap in (0, 1, 2, many - 1, many, GREATEST):
            if gap >= 0:
                yield kinds, pairs, gap


def great_kinds(seed):
    """Twenty-four points of twelve kinds, three hundred pairs, many of them with kinds that no point has."""
    chance = Random(seed)
    kinds = [chance.randrange(12) for point in range(24)]
    pairs = [(chance.randrange(12), chance.randrange(12, 500)) for k in range(270)]
    pairs += [(chance.randrange(12), chance.randrange(12)) for k in range(30)]
    return kinds, pairs


class RowTest(RefusalTest):
    def test_by_hand(self):
        self.assertEqual(row_of_kinds([1, 2, 1, 2], [(1, 2)], 0), (4, [(0, 1), (0, 3), (1, 2), (2, 3)]))
        self.assertEqual(row_of_kinds([5, 6, 7], [(5, 7)], 0), (3, [(0, 2)]))
        self.assertEqual(row_of_kinds([5, 6, 7], [], 0), (3, []))
        self.assertEqual(row_of_kinds([], [(1, 2)], 0), (0, []))
        self.assertEqual(row_of_kinds([], [], 0), (0, []))
        self.assertEqual(row_of_kinds([1], [(1, 1)], 0), (1, []))

    def test_pairs_either_way_about_and_more_than_once(self):
        kinds = [1, 2, 3, 1]
        row = (4, [(0, 1), (1, 2), (1, 3)])
        for pairs in [[(1, 2), (3, 2)], [(2, 1), (2, 3)], [(3, 2), (1, 2), (2, 1), (2, 3), (1, 2)], [(2, 3), (2, 1)]]:
            self.assertEqual(row_of_kinds(kinds, pairs, 0), row, pairs)

    def test_a_kind_with_itself(self):
        self.assertEqual(row_of_kinds([4, 9, 4, 4], [(4, 4)], 0), (4, [(0, 2), (0, 3), (2, 3)]))
        self.assertEqual(row_of_kinds([4, 9, 4, 4], [(4, 9)], 0), (4, [(0, 1), (1, 2), (1, 3)]))
        self.assertEqual(row_of_kinds([4, 9, 4, 4], [(9, 9)], 0), (4, []))

    def test_kinds_below_0_and_of_thirty_figures(self):
        kinds = [-GREATEST, GREATEST, 0, -1, FAR]
        pairs = [(GREATEST, -GREATEST), (-1, 0), (FAR, FAR + 1)]
        self.assertEqual(row_of_kinds(kinds, pairs, 0), (5, [(0, 1), (2, 3)]))
        self.assertEqual(row_of_kinds(kinds, [(1, 0), (GREATEST - 1, FAR)], 0), (5, []))

    def test_the_gap(self):
        kinds = [7] * 5
        for gap in (0, 1, 2, 3, 4, 5, 6, 100, FAR, GREATEST):
            ties = [(a, b) for a in range(5) for b in range(5) if b - a > gap]
            self.assertEqual(row_of_kinds(kinds, [(7, 7)], gap), (5, ties), gap)
        self.assertEqual(row_of_kinds([7, 7], [(7, 7)], 0), (2, [(0, 1)]))
        self.assertEqual(row_of_kinds([7, 7], [(7, 7)], 1), (2, []))
        self.assertEqual(row_of_kinds([7, 7, 7], [(7, 7)], 1), (3, [(0, 2)]))

    def test_against_all_twos_of_points(self):
        for kinds, pairs, gap in kinds_and_pairs():
            self.assertEqual(row_of_kinds(kinds, pairs, gap), row_plainly(kinds, pairs, gap), (kinds, pairs, gap))

    def test_it_is_a_row(self):
        for kinds, pairs, gap in kinds_and_pairs():
            row = row_of_kinds(kinds, pairs, gap)
            self.assertEqual(row_of(*row), row)
            self.assertEqual([type(row), type(row[0]), type(row[1])], [tuple, int, list])
            self.assertTrue(all(type(tie) is tuple for tie in row[1]))

    def test_twenty_four_points_three_hundred_pairs(self):
        for seed in range(4):
            kinds, pairs = great_kinds(seed)
            self.assertEqual(row_of_kinds(kinds, pairs, seed), row_plainly(kinds, pairs, seed))

    def test_no_gap(self):
        for gap in (-1, -2, -FAR, -GREATEST):
            for kinds, pairs in [([], []), ([1], []), ([1, 2], [(1, 2)])]:
                self.refuses(NoGap, row_of_kinds, kinds, pairs, gap)


class MostTest(RefusalTest):
    def test_by_hand(self):
        self.assertEqual(most_of_kinds([1, 2, 1, 2], [(1, 2)], 0), (2, [(0, 1), (2, 3)]))
        self.assertEqual(most_of_kinds([1, 2, 1, 2], [(2, 1)], 1), (1, [(0, 3)]))
        self.assertEqual(most_of_kinds([1, 1, 2, 2], [(1, 2)], 0), (2, [(0, 3), (1, 2)]))
        self.assertEqual(most_of_kinds([1, 2, 1, 2], [(2, 1)], 3), (0, []))
        self.assertEqual(most_of_kinds([], [], 0), (0, []))
        self.assertEqual(most_of_kinds([1, 2, 3], [(1, 2)], GREATEST), (0, []))

    def test_small_rows_of_kinds(self):
        for kinds, pairs, gap in kinds_and_pairs():
            first = best_sets(row_plainly(kinds, pairs, gap))[0]
            self.assertEqual(most_of_kinds(kinds, pairs, gap), (len(first), first), (kinds, pairs, gap))

    def test_twenty_four_points_three_hundred_pairs(self):
        for seed in range(4):
            kinds, pairs = great_kinds(seed)
            number, ties = most_of_kinds(kinds, pairs, seed)
            row = row_plainly(kinds, pairs, seed)
            self.assertEqual(number, most_plainly(kinds, pairs, seed))
            self.assertEqual(ties, first_best(row))

    def test_kinds(self):
        told = most_of_kinds([1, 2], [(1, 2)], 0)
        self.assertEqual([type(told), type(told[0]), type(told[1]), type(told[1][0])], [tuple, int, list, tuple])

    def test_no_gap(self):
        for gap in (-1, -2, -GREATEST):
            self.refuses(NoGap, most_of_kinds, [], [], gap)
            self.refuses(NoGap, most_of_kinds, [1, 2], [(1, 2)], gap)


class BestKindsTest(RefusalTest):
    def test_by_hand(self):
        self.assertEqual(best_kinds([1, 1], [(1, 2)], 0, 0), (1, [2]))
        self.assertEqual(best_kinds([1, 1], [(1, 2), (3, 1)], 0, 1), (1, [2, 3]))
        self.assertEqual(best_kinds([1, 2], [(1, 2)], 0, 0), (1, [1]))
        self.assertEqual(best_kinds([1, 2], [(1, 2)], 1, 0), (0, [1, 2]))
        self.assertEqual(best_kinds([1, 5, 2], [(1, 2)], 1, 1), (1, [1, 2, 5]))

    def test_its_own_and_all_others_are_tried(self):
        self.assertEqual(best_kinds([9], [], 0, 0), (0, [9]))
        self.assertEqual(best_kinds([9], [(3, 4), (-1, 3)], 0, 0), (0, [-1, 3, 4, 9]))
        self.assertEqual(best_kinds([9, 8], [], 5, 1), (0, [8, 9]))
        self.assertEqual(best_kinds([9, 9, 9], [(9, 9)], 0, 1), (1, [9]))
        self.assertEqual(best_kinds([5, 4, 4], [(4, 4), (4, 7)], 0, 0), (1, [4, 5, 7]))
        self.assertEqual(best_kinds([5, 4, 4, 4], [(4, 4), (4, 7)], 0, 0), (2, [4, 7]))

    def test_a_kind_that_only_this_point_has(self):
        self.assertEqual(best_kinds([1, 2, 3, 4], [(1, 2), (3, 4)], 0, 3), (2, [4]))
        self.assertEqual(best_kinds([1, 2, 3, 8], [(1, 2), (3, 1)], 0, 3), (2, [1]))

    def test_kinds_below_0_and_of_thirty_figures(self):
        pairs = [(GREATEST, 0), (0, -GREATEST), (0, -3)]
        self.assertEqual(best_kinds([0, 5], pairs, 0, 1), (1, [-GREATEST, -3, GREATEST]))

    def test_every_point_of_small_rows_of_kinds(self):
        for kinds, pairs, gap in kinds_and_pairs():
            for place in range(len(kinds)):
                told = best_kinds(kinds, pairs, gap, place)
                self.assertEqual(told, best_plainly(kinds, pairs, gap, place), (kinds, pairs, gap, place))

    def test_all_kinds_of_five_points(self):
        for kinds in product((1, 2, 3), repeat=5):
            for gap in (0, 1):
                told = best_kinds(list(kinds), [(1, 2), (3, 3), (3, 6)], gap, 2)
                self.assertEqual(told, best_plainly(list(kinds), [(1, 2), (3, 3), (3, 6)], gap, 2), (kinds, gap))

    def test_twenty_four_points_three_hundred_pairs(self):
        kinds, pairs = great_kinds(1)
        self.assertEqual(best_kinds(kinds, pairs, 1, 10), best_plainly(kinds, pairs, 1, 10))
        for place in range(24):
            number, best = best_kinds(kinds, pairs, 0, place)
            self.assertEqual(best, sorted(set(best)))
            self.assertGreaterEqual(number, most_of_kinds(kinds, pairs, 0)[0])
            for kind in best[:3]:
                self.assertEqual(most_plainly(kinds[:place] + [kind] + kinds[place + 1:], pairs, 0), number)

    def test_kinds(self):
        told = best_kinds([1, 2], [(1, 2)], 0, 0)
        self.assertEqual([type(told), type(told[0]), type(told[1]), type(told[1][0])], [tuple, int, list, int])

    def test_no_place(self):
        for place in (-1, -2, -3, 3, 4, -GREATEST, GREATEST):
            self.refuses(NoPlace, best_kinds, [1, 2, 3], [(1, 2)], 0, place)
            self.refuses(NoPlace, best_kinds, [1, 2, 3], [(1, 2)], GREATEST, place)
            self.refuses(NoPlace, best_kinds, [], [], 0, place)
        self.refuses(NoPlace, best_kinds, [], [(1, 2)], 0, 0)
        self.refuses(NoPlace, best_kinds, [1], [(1, 2)], 0, 1)

    def test_no_gap_goes_ahead(self):
        for gap in (-1, -GREATEST):
            for place in (-GREATEST, -1, 0, 1, 2, GREATEST):
                self.refuses(NoGap, best_kinds, [1, 2], [(1, 2)], gap, place)
                self.refuses(NoGap, best_kinds, [], [], gap, place)


class PutInTest(RefusalTest):
    def test_by_hand(self):
        self.assertEqual(most_with([], [], 0, 0, 5), 0)
        self.assertEqual(most_with([1], [(1, 2)], 0, 0, 2), 1)
        self.assertEqual(most_with([1], [(2, 1)], 0, 1, 2), 1)
        self.assertEqual(most_with([1], [(2, 1)], 1, 1, 2), 0)
        self.assertEqual(most_with([1, 2], [(2, 1)], 1, 1, 9), 1)
        self.assertEqual(most_with([1, 2], [(2, 1)], 1, 0, 9), 0)
        self.assertEqual(most_with([1, 2], [(2, 1)], 1, 2, 9), 0)
        self.assertEqual(most_with([1, 1, 2], [(1, 2)], 0, 0, 1), 1)
        self.assertEqual(most_with([1, 1, 2], [(1, 2)], 0, 0, 2), 2)
        self.assertEqual(most_with([1, 1, 2], [(1, 2)], 0, 1, 2), 2)

    def test_every_place_of_small_rows_of_kinds(self):
        for kinds, pairs, gap in kinds_and_pairs():
            most = most_plainly(kinds, pairs, gap)
            for place in range(len(kinds) + 1):
                for kind in sorted(set(kinds) | {either for pair in pairs for either in pair} | {12345}):
                    told = most_with(kinds, pairs, gap, place, kind)
                    self.assertEqual(told, most_plainly(kinds[:place] + [kind] + kinds[place:], pairs, gap))
                    self.assertIn(told, (most, most + 1), (kinds, pairs, gap, place, kind))

    def test_twenty_four_points_three_hundred_pairs(self):
        kinds, pairs = great_kinds(2)
        for gap in (0, 3):
            most = most_plainly(kinds, pairs, gap)
            for place in range(25):
                told = most_with(kinds, pairs, gap, place, place % 12)
                self.assertEqual(told, most_plainly(kinds[:place] + [place % 12] + kinds[place:], pairs, gap))
                self.assertIn(told, (most, most + 1))

    def test_kind(self):
        self.assertIs(type(most_with([], [], 0, 0, 5)), int)
        self.assertIs(type(most_with([1], [(1, 2)], 0, 0, 2)), int)

    def test_no_place(self):
        for place in (-1, -2, -4, 4, 5, -GREATEST, GREATEST):
            self.refuses(NoPlace, most_with, [1, 2, 3], [(1, 2)], 0, place, 1)
            self.refuses(NoPlace, most_with, [], [], 0, place, 1)
        self.refuses(NoPlace, most_with, [], [], 0, 1, 1)

    def test_no_gap_goes_ahead(self):
        for gap in (-1, -GREATEST):
            for place in (-GREATEST, -1, 0, 2, 3, GREATEST):
                self.refuses(NoGap, most_with, [1, 2], [(1, 2)], gap, place, 1)
                self.refuses(NoGap, most_with, [], [], gap, place, 1)


class WholePromiseTest(unittest.TestCase):
    def test_all_is_as_with_the_ties_that_the_kinds_let(self):
        for kinds, pairs, gap in kinds_and_pairs():
            row = row_of_kinds(kinds, pairs, gap)
            plain = row_plainly(kinds, pairs, gap)
            self.assertEqual(most_of_kinds(kinds, pairs, gap), most_ties(plain))
            self.assertIs(is_set(plain, most_of_kinds(kinds, pairs, gap)[1]), True)
            self.assertEqual(count_sets(row), len(all_sets(plain)))
            self.assertEqual(table_of(row), table_of(plain))
            self.assertEqual(heaviest(row, [1] * len(row[1])), most_ties(plain))
            self.assertEqual(whole_set(row), whole_set(plain))


if __name__ == "__main__":
    unittest.main()
