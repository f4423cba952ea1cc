"""What tests of refusals have in common."""

import unittest
from itertools import permutations

from archrow.errors import NoSet
from plainly import all_sets

FAR = 10 ** 29


class RefusalTest(unittest.TestCase):
    def refuses(self, wrong, deed, *given):
        with self.assertRaises(wrong) as caught:
            deed(*given)
        self.assertIs(type(caught.exception), wrong, given)

    def refuses_all_that_is_no_set(self, deed):
        row = (5, [(0, 1), (0, 3), (1, 2), (1, 4), (2, 3), (2, 4), (3, 4)])
        tuples = row[1] + [(1, 0), (0, 4), (-1, 5), (2, 2)]
        sets = all_sets(row)
        for length in range(4):
            for ties in permutations(tuples, length):
                if list(ties) not in sets:
                    self.refuses(NoSet, deed, row, list(ties))
        for wrong in [(0, FAR), (-FAR, 0), (FAR, FAR), (5, 6), (0, 5), (4, 3)]:
            self.refuses(NoSet, deed, row, [wrong])
            self.refuses(NoSet, deed, row, [(0, 1), wrong])
            self.refuses(NoSet, deed, (0, []), [wrong])
        self.refuses(NoSet, deed, row, [(0, 1), (0, 1)])
        self.refuses(NoSet, deed, row, [(2, 3), (0, 1)])
        self.refuses(NoSet, deed, row, [(0, 1)] * 400)
