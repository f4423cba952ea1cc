"""Sets in which every point is tied, of a row and of its stretches.

A set is whole where it has half as many ties as there are points, and then none has more.
"""

from archrow.kept import how_many_most, most_ties, table_of


def whole_set(row):
    """Tell the first whole set, or None."""
    number, ties = most_ties(row)
    return ties if 2 * number == row[0] else None


def count_whole(row):
    """Tell how many whole sets there are."""
    return how_many_most(row) if is_whole(table_of(row), 0, row[0]) else 0


def longest_whole(row):
    """Tell (i, j) of the longest stretch that has a whole set, the first of these."""
    many = row[0]
    table = table_of(row)
    for length in range(many, 0, -1):
        for i in range(many - length + 1):
            if is_whole(table, i, i + length):
                return (i, i + length)
    return (0, 0)


def fewest_cuts(row):
    """Tell the ends of the fewest stretches that are whole or of one point, the first such list."""
    many = row[0]
    table = table_of(row)
    fewest = [0 for place in range(many + 1)]
    for i in range(many - 1, -1, -1):
        fewest[i] = 1 + min([fewest[j] for j in ends_from(table, i)])
    cuts = []
    at = 0
    while at < many:
        at = [j for j in ends_from(table, at) if fewest[j] == fewest[at] - 1][0]
        cuts.append(at)
    return cuts


def is_whole(table, i, j):
    """Tell whether the stretch from i to before j has a whole set."""
    return 2 * table[i][j - i] == j - i


def ends_from(table, i):
    """Tell, rising, the places behind the stretches from i that are whole or of one point."""
    # A table has a list for the place behind the last point, too.
    return [j for j in range(i + 1, len(table)) if j == i + 1 or is_whole(table, i, j)]
