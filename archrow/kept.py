"""The most ties that can be kept at once, of a row and of its stretches, with papers."""

from archrow.errors import NoStretch
from archrow.stretches import best_choices, first_greatest, greatest_table, paper_holds
from archrow.stretches import parts_left, partners_of, stretches_rising, ways_by


def most_ties(row):
    """Tell (number, set): the most ties of a set, and the first set that has so many."""
    return most_of(row, 0, row[0])


def most_of(row, i, j):
    """Tell (number, set) of the stretch from i to before j alone."""
    if not 0 <= i <= j <= row[0]:
        raise NoStretch("a stretch goes from a place of the row to the same or a later one")
    table = table_of(row)
    return (table[i][j - i], first_greatest(row, one_each(row), table, i, j))


def table_of(row):
    """Tell, for each i, the most ties of the stretches from i to before i, i + 1 and so on."""
    return greatest_table(row, one_each(row))


def paper_shows(row, paper):
    """Tell whether a paper of the row is let by."""
    return paper_holds(row, one_each(row), paper)


def always_tied(row):
    """Tell the points tied in every set with the most ties, and those tied in none."""
    choices = choices_met(row)
    free = {i for i, k in choices if k is None}
    tied = {point for choice in choices if choice[1] is not None for point in choice}
    always = [point for point in range(row[0]) if point not in free]
    never = [point for point in range(row[0]) if point not in tied]
    return (always, never)


def how_many_most(row):
    """Tell how many sets have the most ties."""
    many = row[0]
    partners = partners_of(row)
    worth = one_each(row)
    table = table_of(row)
    counts = [[1] for i in range(many + 1)]
    for i, j in stretches_rising(many):
        counts[i].append(ways_by(counts, best_choices(partners, worth, table, i, j), i, j))
    return counts[0][many]


def one_each(row):
    """Tell the worth by which a set's worth is how many ties it has."""
    return {tie: 1 for tie in row[1]}


def choices_met(row):
    """Tell (point, choice) for all that sets with the most ties do, as best_choices tells it."""
    many = row[0]
    partners = partners_of(row)
    worth = one_each(row)
    table = table_of(row)
    choices = []
    reached = set()
    reached.add((0, many))
    # A part begins behind its stretch's first point, so all that lead to a stretch come before it.
    for i in range(many):
        for j in range(i + 1, many + 1):
            if (i, j) in reached:
                for k in best_choices(partners, worth, table, i, j):
                    choices.append((i, k))
                    for part in parts_left(i, k, j):
                        reached.add(part)
    return choices
