"""Rows put one behind the other, and rows turned about, with their sets."""

from archrow.arcs import check_set


def rows_joined(one, other):
    """Tell the row of both, the second one's points behind the first one's."""
    return (one[0] + other[0], one[1] + ties_behind(one[0], other[1]))


def sets_joined(one, other, ties, others):
    """Tell the set of both rows together from a set of either."""
    check_set(one, ties)
    check_set(other, others)
    return ties + ties_behind(one[0], others)


def row_turned(row):
    """Tell the row with its last point first."""
    many, ties = row
    return (many, ties_turned(many, ties))


def set_turned(row, ties):
    """Tell the set of the row turned about."""
    check_set(row, ties)
    return ties_turned(row[0], ties)


def ties_behind(many, ties):
    """Tell ties with their points moved behind so many others."""
    return [(many + a, many + b) for a, b in ties]


def ties_turned(many, ties):
    """Tell ties, sorted, of so many points with the last point first."""
    return sorted([(many - 1 - b, many - 1 - a) for a, b in ties])
