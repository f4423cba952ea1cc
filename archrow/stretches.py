"""What the tables of all stretches of a row have in common.

A stretch from i to before j has its entry at [i][j - i] of a table or a paper.
Its first point either stays free or is tied to one point k of it; what is left
then are one or two lesser stretches, and every set comes about so in just one way.

The worth of ties is a dict with a whole number for each tie of a row.
"""


def stretches_rising(many):
    """Tell all stretches that have points, each behind those that are left of it."""
    return [(i, j) for i in range(many - 1, -1, -1) for j in range(i + 1, many + 1)]


def partners_of(row):
    """Tell for each point the greater points that it is tied to, rising."""
    many, ties = row
    partners = [[] for point in range(many)]
    for a, b in ties:
        partners[a].append(b)
    return partners


def parts_left(i, k, j):
    """Tell the stretches that are left of one whose first point is tied to k, or free (None)."""
    if k is None:
        return [(i + 1, j)]
    return [(i + 1, k), (k + 1, j)]


def has_shape(paper, many):
    """Tell whether a paper has as many lists, and each as many numbers, as a table."""
    return [len(numbers) for numbers in paper] == list(range(many + 1, 0, -1))


def greatest_table(row, worth):
    """Tell the greatest worth that a set of each stretch has."""
    many = row[0]
    partners = partners_of(row)
    table = [[0] for i in range(many + 1)]
    for i, j in stretches_rising(many):
        table[i].append(least_number(partners, worth, table, i, j))
    return table


def paper_holds(row, worth, paper):
    """Tell whether a paper shows that no set is worth more than it tells."""
    if not has_shape(paper, row[0]) or any([number < 0 for numbers in paper for number in numbers]):
        return False
    partners = partners_of(row)
    for i, j in stretches_rising(row[0]):
        if paper[i][j - i] < least_number(partners, worth, paper, i, j):
            return False
    return True


def number_with(worth, table, i, k, j):
    """Tell what a table gives the stretch from i to before j where i is tied to k."""
    return worth[(i, k)] + table[i + 1][k - i - 1] + table[k + 1][j - k - 1]


def least_number(partners, worth, table, i, j):
    """Tell the least number that a stretch with points can have beside those of lesser ones."""
    numbers = [number_with(worth, table, i, k, j) for k in partners[i] if k < j]
    return max(numbers + [table[i + 1][j - i - 1]])


def best_choices(partners, worth, table, i, j):
    """Tell what sets of the greatest worth do with a stretch's first point: tie it to k, or None.

    None stands last: of sets with as many ties, one that ties the first point comes before
    any that leaves it free.
    """
    best = table[i][j - i]
    choices = [k for k in partners[i] if k < j and number_with(worth, table, i, k, j) == best]
    if table[i + 1][j - i - 1] == best:
        choices.append(None)
    return choices


def first_greatest(row, worth, table, i, j):
    """Tell the first set of a stretch that has the greatest worth.

    This holds only where all sets of the greatest worth have as many ties.
    """
    partners = partners_of(row)
    found = []
    waiting = [(i, j)]
    while waiting:
        low, high = waiting.pop()
        if low < high:
            k = best_choices(partners, worth, table, low, high)[0]
            if k is not None:
                found.append((low, k))
            # The leftmost part is to be taken up next, so that the ties come about sorted.
            waiting.extend(parts_left(low, k, high)[::-1])
    return found


def ways_in(counts, parts):
    """Tell in how many ways one set of each part, as counted in a table, can be put together."""
    ways = 1
    for low, high in parts:
        ways = ways * counts[low][high - low]
    return ways


def ways_by(counts, choices, i, j):
    """Tell in how many ways a stretch's sets come about by these choices for its first point."""
    return sum([ways_in(counts, parts_left(i, k, j)) for k in choices])
