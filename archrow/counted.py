"""How many sets a row has, and their numbers in the order of lists.

A set is followed tie by tie. What can come behind a tie lies in some stretches from left
to right, which wait: that beneath it, that behind it, and those that waited further on.
"""

from archrow.arcs import check_set, row_beside
from archrow.errors import NoNumber, NoTie
from archrow.stretches import partners_of, stretches_rising, ways_by, ways_in


def count_sets(row):
    """Tell how many sets a row has."""
    return counts_of(row)[0][row[0]]


def by_size(row):
    """Tell how many sets have 0, 1, 2 and so on ties, as far as there are some."""
    many = row[0]
    partners = partners_of(row)
    table = [[[1]] for i in range(many + 1)]
    for i, j in stretches_rising(many):
        sizes = list(table[i + 1][j - i - 1])
        for k in partners[i]:
            if k < j:
                add_sizes(sizes, table[i + 1][k - i - 1], table[k + 1][j - k - 1])
        table[i].append(sizes)
    return table[0][many]


def count_with(row, tie):
    """Tell how many sets hold a tie."""
    if tie not in row[1]:
        raise NoTie("this is no tie of the row")
    return count_sets(row_beside(row, tie))


def set_number(row, ties):
    """Tell the number of a set in the order of lists."""
    check_set(row, ties)
    counts = counts_of(row)
    waiting = [(0, row[0])]
    number = 0
    for tie in ties:
        passed = [other for other in ties_next(row, waiting) if other < tie]
        # The set that ends ahead of this tie is passed, too.
        number += 1 + sum([ways_in(counts, waiting_behind(waiting, other)) for other in passed])
        waiting = waiting_behind(waiting, tie)
    return number


def set_at(row, number):
    """Tell the set of a number in the order of lists."""
    counts = counts_of(row)
    if not 0 <= number < counts[0][row[0]]:
        raise NoNumber("no set of the row has this number")
    waiting = [(0, row[0])]
    found = []
    left = number
    for tie in row[1]:
        later = waiting_behind(waiting, tie)
        if left > 0 and later is not None:
            ways = ways_in(counts, later)
            # Of all that begin with the ties found, the first is these alone: the others count from 1.
            if left <= ways:
                found.append(tie)
                waiting = later
                left -= 1
            else:
                left -= ways
    return found


def next_set(row, ties):
    """Tell the next set in the order of lists, or None."""
    check_set(row, ties)
    begun = list(ties)
    later = ties_next(row, waiting_after(row, begun))
    while begun and not later:
        last = begun.pop()
        later = [tie for tie in ties_next(row, waiting_after(row, begun)) if tie > last]
    if not later:
        return None
    return begun + [later[0]]


def how_many_begin(row, ties):
    """Tell how many sets begin with a set, itself among them."""
    check_set(row, ties)
    return ways_in(counts_of(row), waiting_after(row, ties))


def counts_of(row):
    """Tell how many sets each stretch has."""
    many = row[0]
    partners = partners_of(row)
    counts = [[1] for i in range(many + 1)]
    for i, j in stretches_rising(many):
        choices = [k for k in partners[i] if k < j] + [None]
        counts[i].append(ways_by(counts, choices, i, j))
    return counts


def add_sizes(sizes, beneath, behind):
    """Add to numbers of sets by size those that have a tie with such beneath it and behind it."""
    for low in range(len(beneath)):
        for high in range(len(behind)):
            # Each size is met only behind all lesser ones.
            if low + high + 1 == len(sizes):
                sizes.append(0)
            sizes[low + high + 1] += beneath[low] * behind[high]


def waiting_behind(waiting, tie):
    """Tell the stretches that wait behind a tie, or None where it lies in none of those that wait."""
    a, b = tie
    for at, (low, high) in enumerate(waiting):
        if low <= a and b < high:
            return [(a + 1, b), (b + 1, high)] + waiting[at + 1:]
    return None


def waiting_after(row, ties):
    """Tell the stretches that wait behind the last tie of a set."""
    waiting = [(0, row[0])]
    for tie in ties:
        waiting = waiting_behind(waiting, tie)
    return waiting


def ties_next(row, waiting):
    """Tell, in order, the ties that can come next where these stretches wait."""
    return [tie for tie in row[1] if waiting_behind(waiting, tie) is not None]
