"""Rows of points with ties, and the lists of ties that are sets."""

from archrow.errors import NoRow, NoSet, NoTie


def row_of(many, ties):
    """Tell the row (many, ties): its ties sorted, each once, the lesser point ahead."""
    if many < 0:
        raise NoRow("a row has 0 points or more")
    for a, b in ties:
        if not 0 <= min(a, b) < max(a, b) < many:
            raise NoRow("a tie goes between two unlike points of the row")
    return (many, sorted({(min(a, b), max(a, b)) for a, b in ties}))


def do_cross(one, other):
    """Tell whether two ties cross."""
    check_tie(one)
    check_tie(other)
    return arcs_cross(one, other)


def check_tie(tie):
    """Refuse what can be a tie of no row."""
    a, b = tie
    if not 0 <= a < b:
        raise NoTie("a tie has two points from 0 on, the lesser ahead")


def arcs_cross(one, other):
    """Tell whether two ties, known to be ties, cross."""
    a, b = one
    c, d = other
    return a < c < b < d or c < a < d < b


def is_set(row, ties):
    """Tell whether a list of tuples is a set of the row."""
    return first_fault(row, ties) is None


def first_fault(row, ties):
    """Tell the first thing that keeps a list of tuples from being a set, or None."""
    for k in range(len(ties)):
        fault = fault_at(row, ties, k)
        if fault is not None:
            return fault
    return None


def fault_at(row, ties, k):
    """Tell the first fault of the k-th tuple, by itself or with those before it, or None."""
    if ties[k] not in row[1]:
        return ("none", k)
    if k > 0 and ties[k] <= ties[k - 1]:
        return ("order", k)
    for j in range(k):
        if share_a_point(ties[j], ties[k]):
            return ("twice", j, k)
    for j in range(k):
        if arcs_cross(ties[j], ties[k]):
            return ("cross", j, k)
    return None


def share_a_point(one, other):
    """Tell whether two ties have a point in common."""
    return one[0] in other or one[1] in other


def check_set(row, ties):
    """Refuse a list of tuples that is no set of the row."""
    if not is_set(row, ties):
        raise NoSet("a set is a sorted list of ties of the row, none crossing, no point twice")


def row_beside(row, tie):
    """Tell the row with only those ties that can stand in one set with this one."""
    many, ties = row
    return (many, [other for other in ties if not share_a_point(tie, other) and not arcs_cross(tie, other)])
