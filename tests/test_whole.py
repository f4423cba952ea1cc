import unittest
from itertools import combinations

from archrow.arcs import is_set
from archrow.kept import most_of, most_ties
from archrow.whole import count_whole, fewest_cuts, longest_whole, whole_set
from plainly import a_row, all_rows, all_sets, blocks_row, full_row, large_row, most_and_count, small_rows, within

CATALAN = [1, 1, 2, 5, 14, 42, 132, 429, 1430, 4862, 16796, 58786, 208012]


def rows():
    """Small rows, all of five points, and some of eight and ten points with few ties."""
    yield from small_rows()
    yield from all_rows(5)
    for seed in range(40):
        yield a_row(seed, 8, 8 + seed % 8)
        yield a_row(seed, 10, 14 + seed % 6)


def whole_sets(row):
    """The whole sets of a row, in the order of lists."""
    return sorted(held for held in all_sets(row) if sorted(sum(held, ())) == list(range(row[0])))


def whole_stretches(row):
    """Every stretch that has a whole set of its own."""
    stretches = []
    for i in range(row[0] + 1):
        for j in range(i, row[0] + 1):
            points = list(range(i, j))
            if any(sorted(sum(held, ())) == points for held in all_sets(within(row, i, j))):
                stretches.append((i, j))
    return stretches


def cuts_plainly(row):
    """The fewest cuts: every way to cut the row is tried."""
    many = row[0]
    if many == 0:
        return []
    fine = set(whole_stretches(row)) | {(i, i + 1) for i in range(many)}
    for number in range(many):
        for cuts in combinations(range(1, many), number):
            ends = list(cuts) + [many]
            if all(stretch in fine for stretch in zip([0] + ends, ends)):
                return ends
    raise AssertionError("single points always do")


class WholeSetTest(unittest.TestCase):
    def test_by_hand(self):
        self.assertEqual(whole_set((2, [(0, 1)])), [(0, 1)])
        self.assertEqual(whole_set((4, [(0, 3), (1, 2)])), [(0, 3), (1, 2)])
        self.assertEqual(whole_set((4, [(0, 1), (0, 3), (1, 2), (2, 3)])), [(0, 1), (2, 3)])
        self.assertIsNone(whole_set((4, [(0, 2), (1, 3)])))
        self.assertIsNone(whole_set((4, [(0, 3)])))
        self.assertIsNone(whole_set((4, [(0, 1), (1, 2), (1, 3)])))

    def test_no_points(self):
        self.assertEqual(whole_set((0, [])), [])
        self.assertEqual(count_whole((0, [])), 1)

    def test_without_ties(self):
        for many in (1, 2, 3, 40):
            self.assertIsNone(whole_set((many, [])))
            self.assertEqual(count_whole((many, [])), 0)

    def test_an_odd_number_of_points(self):
        for many in (1, 3, 5, 7, 39):
            self.assertIsNone(whole_set(full_row(many)))
            self.assertEqual(count_whole(full_row(many)), 0)

    def test_all_ties(self):
        for half, count in enumerate(CATALAN):
            row = full_row(2 * half)
            self.assertEqual(count_whole(row), count)
            self.assertEqual(whole_set(row), [(k, k + 1) for k in range(0, 2 * half, 2)])

    def test_small_rows(self):
        for row in rows():
            sets = whole_sets(row)
            self.assertEqual(whole_set(row), sets[0] if sets else None, row)
            self.assertEqual(count_whole(row), len(sets), row)

    def test_forty_points_three_hundred_ties(self):
        self.assertIsNone(whole_set(blocks_row()))
        self.assertEqual(count_whole(blocks_row()), 0)
        fans = (40, sorted([(k, 39 - k) for k in range(20)] + a_row(9, 20, 140)[1] + [
            (a + 20, b + 20) for a, b in a_row(8, 20, 140)[1]]))
        self.assertEqual((fans[0], len(fans[1])), (40, 300))
        self.assertEqual(count_whole(fans), most_and_count(fans)[1])
        ties = whole_set(fans)
        self.assertEqual(ties, most_ties(fans)[1])
        self.assertIs(is_set(fans, ties), True)
        self.assertEqual(sorted(sum(ties, ())), list(range(40)))

    def test_nests_as_deep_as_can_be(self):
        row = (40, [(k, 39 - k) for k in range(20)])
        self.assertEqual((whole_set(row), count_whole(row)), (row[1], 1))

    def test_kinds(self):
        told = whole_set((4, [(0, 1), (2, 3)]))
        self.assertEqual([type(told), type(told[0])], [list, tuple])
        self.assertIs(type(whole_set((0, []))), list)
        for row in [(0, []), (1, []), (2, [(0, 1)]), (3, [(0, 1)])]:
            self.assertIs(type(count_whole(row)), int)


class LongestTest(unittest.TestCase):
    def test_by_hand(self):
        self.assertEqual(longest_whole((2, [(0, 1)])), (0, 2))
        self.assertEqual(longest_whole((5, [(1, 4), (2, 3)])), (1, 5))
        self.assertEqual(longest_whole((5, [(0, 2), (1, 4), (2, 3)])), (1, 5))
        self.assertEqual(longest_whole((6, [(0, 3), (1, 2), (4, 5)])), (0, 6))
        self.assertEqual(longest_whole((7, [(0, 3), (4, 5), (5, 6)])), (4, 6))

    def test_the_first_of_these(self):
        self.assertEqual(longest_whole((5, [(0, 1), (3, 4)])), (0, 2))
        self.assertEqual(longest_whole((3, [(0, 1), (1, 2)])), (0, 2))
        self.assertEqual(longest_whole((8, [(0, 2), (2, 3), (5, 6)])), (2, 4))

    def test_only_the_empty_one(self):
        for row in [(0, []), (1, []), (2, []), (40, []), (3, [(0, 2)]), (6, [(0, 2), (1, 3), (3, 5)])]:
            self.assertEqual(longest_whole(row), (0, 0), row)

    def test_small_rows(self):
        for row in rows():
            length, i = min((i - j, i) for i, j in whole_stretches(row))
            self.assertEqual(longest_whole(row), (i, i - length), row)

    def test_forty_points_three_hundred_ties(self):
        self.assertEqual(longest_whole(blocks_row()), (0, 34))
        row = large_row()
        i, j = longest_whole(row)
        self.assertEqual(2 * most_and_count(within(row, i, j))[0], j - i)
        for low in range(41):
            for high in range(low, 41):
                if high - low > j - i or (high - low == j - i and low < i):
                    self.assertLess(2 * most_of(row, low, high)[0], high - low)

    def test_kinds(self):
        for row in [(0, []), (3, [(1, 2)])]:
            told = longest_whole(row)
            self.assertEqual([type(told), type(told[0]), type(told[1])], [tuple, int, int])


class CutsTest(unittest.TestCase):
    def test_by_hand(self):
        self.assertEqual(fewest_cuts((2, [(0, 1)])), [2])
        self.assertEqual(fewest_cuts((4, [(0, 1), (2, 3)])), [4])
        self.assertEqual(fewest_cuts((5, [(0, 3), (1, 2)])), [4, 5])
        self.assertEqual(fewest_cuts((5, [(1, 4), (2, 3)])), [1, 5])
        self.assertEqual(fewest_cuts((4, [(0, 3)])), [1, 2, 3, 4])
        self.assertEqual(fewest_cuts((5, [(0, 1), (3, 4)])), [2, 3, 5])

    def test_of_the_fewest_the_first_as_lists(self):
        self.assertEqual(fewest_cuts((3, [(0, 1), (1, 2)])), [1, 3])
        self.assertEqual(fewest_cuts((5, [(0, 1), (1, 2), (2, 3), (3, 4)])), [1, 5])
        self.assertEqual(fewest_cuts((6, [(0, 1), (1, 2), (2, 5), (3, 4)])), [6])
        self.assertEqual(fewest_cuts((6, [(0, 1), (1, 2), (3, 4), (4, 5)])), [1, 5, 6])
        self.assertEqual(fewest_cuts((7, [(0, 1), (1, 2), (2, 3), (5, 6)])), [4, 5, 7])

    def test_no_points(self):
        self.assertEqual(fewest_cuts((0, [])), [])

    def test_without_ties(self):
        for many in (1, 2, 3, 40):
            self.assertEqual(fewest_cuts((many, [])), list(range(1, many + 1)))

    def test_small_rows(self):
        for row in rows():
            self.assertEqual(fewest_cuts(row), cuts_plainly(row), row)

    def test_forty_points_three_hundred_ties(self):
        self.assertEqual(fewest_cuts(blocks_row()), [20, 21, 39, 40])
        row = large_row()
        whole = {(i, j) for i in range(41) for j in range(i, 41) if 2 * most_of(row, i, j)[0] == j - i}
        best = {0: (0, [])}
        for j in range(1, 41):
            best[j] = min(
                (best[i][0] + 1, best[i][1] + [j]) for i in range(j) if i == j - 1 or (i, j) in whole)
        self.assertEqual(fewest_cuts(row), best[40][1])

    def test_kinds(self):
        for row in [(0, []), (3, [(1, 2)])]:
            told = fewest_cuts(row)
            self.assertEqual([type(told)] + [type(end) for end in told], [list] + [int] * len(told))


if __name__ == "__main__":
    unittest.main()
