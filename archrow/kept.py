"""The most ties that can be kept at once, of a row and of its stretches, with papers.

A stretch from i to before j has its number at [i][j - i] of a table or a paper.
Its first point either stays free or is tied to one point k of it; what is left
then are one or two lesser stretches, and every set comes about so in just one way.
"""

from archrow.errors import NoStretch


def most_ties(row):
    """Tell (number, set): the most ties of a set, and the first set that has so many."""
    return most_of(row, 0, row[0])


def most_of(row, i, j):
    """Tell (number, set) of the stretch from i to before j alone."""
    if not 0 <= i <= j <= row[0]:
        raise NoStretch("a stretch goes from a place of the row to the same or a later one")
    table = table_of(row)
    return (table[i][j - i], first_set(partners_of(row), table, i, j))


def table_of(row):
    """Tell, for each i, the most ties of the stretches from i to before i, i + 1 and so on."""
    many = row[0]
    partners = partners_of(row)
    table = [[0] for i in range(many + 1)]
    for i in range(many - 1, -1, -1):
        for j in range(i + 1, many + 1):
            table[i].append(least_number(partners, table, i, j))
    return table


def paper_shows(row, paper):
    """Tell whether a paper of the row is let by."""
    if not has_shape(paper, row[0]) or any([number < 0 for numbers in paper for number in numbers]):
        return False
    partners = partners_of(row)
    for i in range(row[0]):
        for j in range(i + 1, row[0] + 1):
            if paper[i][j - i] < least_number(partners, paper, i, j):
                return False
    return True


def always_tied(row):
    """Tell the points tied in every set with the most ties, and those tied in none."""
    choices = choices_met(row)
    free = {i for i, k in choices if k is None}
    tied = {point for choice in choices if choice[1] is not None for point in choice}
    always = [point for point in range(row[0]) if point not in free]
    never = [point for point in range(row[0]) if point not in tied]
    return (always, never)


def how_many_most(row):
    """Tell how many sets have the most ties."""
    many = row[0]
    partners = partners_of(row)
    table = table_of(row)
    counts = [[1] for i in range(many + 1)]
    for i in range(many - 1, -1, -1):
        for j in range(i + 1, many + 1):
            counts[i].append(count_most(partners, table, counts, i, j))
    return counts[0][many]


def partners_of(row):
    """Tell for each point the greater points that it is tied to, rising."""
    many, ties = row
    partners = [[] for point in range(many)]
    for a, b in ties:
        partners[a].append(b)
    return partners


def number_with(table, i, k, j):
    """Tell what a table gives the stretch from i to before j where i is tied to k."""
    return 1 + table[i + 1][k - i - 1] + table[k + 1][j - k - 1]


def least_number(partners, table, i, j):
    """Tell the least number that a stretch with points can have beside those of lesser ones."""
    numbers = [number_with(table, i, k, j) for k in partners[i] if k < j]
    return max(numbers + [table[i + 1][j - i - 1]])


def has_shape(paper, many):
    """Tell whether a paper has as many lists, and each as many numbers, as a table."""
    return [len(numbers) for numbers in paper] == list(range(many + 1, 0, -1))


def best_choices(partners, table, i, j):
    """Tell what sets with the most ties do with a stretch's first point: tie it to k, or None.

    None stands last, as a set that ties the first point comes before any that leaves it free.
    """
    best = table[i][j - i]
    choices = [k for k in partners[i] if k < j and number_with(table, i, k, j) == best]
    if table[i + 1][j - i - 1] == best:
        choices.append(None)
    return choices


def parts_left(i, k, j):
    """Tell the stretches that are left of one whose first point is tied to k, or free (None)."""
    if k is None:
        return [(i + 1, j)]
    return [(i + 1, k), (k + 1, j)]


def first_set(partners, table, i, j):
    """Tell the first set of a stretch that has the most ties."""
    found = []
    waiting = [(i, j)]
    while waiting:
        low, high = waiting.pop()
        if low < high:
            k = best_choices(partners, table, low, high)[0]
            if k is not None:
                found.append((low, k))
            # The leftmost part is to be taken up next, so that the ties come about sorted.
            waiting.extend(parts_left(low, k, high)[::-1])
    return found


def count_most(partners, table, counts, i, j):
    """Tell how many sets of a stretch with points have its most ties."""
    total = 0
    for k in best_choices(partners, table, i, j):
        ways = 1
        for low, high in parts_left(i, k, j):
            ways = ways * counts[low][high - low]
        total += ways
    return total


def choices_met(row):
    """Tell (point, choice) for all that sets with the most ties do, as best_choices tells it."""
    many = row[0]
    partners = partners_of(row)
    table = table_of(row)
    choices = []
    reached = set()
    reached.add((0, many))
    # A part begins behind its stretch's first point, so all that lead to a stretch come before it.
    for i in range(many):
        for j in range(i + 1, many + 1):
            if (i, j) in reached:
                for k in best_choices(partners, table, i, j):
                    choices.append((i, k))
                    for part in parts_left(i, k, j):
                        reached.add(part)
    return choices
