"""How the ties of a set lie within one another, and the shapes that come of it."""

from archrow.arcs import check_set
from archrow.errors import NoShape
from archrow.stretches import partners_of, stretches_rising
from archrow.texts import arcs_in, brackets


def nest_of(row, ties):
    """Tell for each tie of a set the place of the tie next above it, or None."""
    check_set(row, ties)
    nest = []
    around = []
    for at, tie in enumerate(ties):
        while around and ties[around[-1]][1] < tie[0]:
            around.pop()
        nest.append(around[-1] if around else None)
        around.append(at)
    return nest


def depths_of(row, ties):
    """Tell how deep each tie of a set lies, 1 for the outermost."""
    depths = []
    for above in nest_of(row, ties):
        depths.append(1 if above is None else depths[above] + 1)
    return depths


def depth_of(row, ties):
    """Tell the greatest depth of a set, 0 for the empty one."""
    return max(depths_of(row, ties), default=0)


def shape_of(row, ties):
    """Tell the brackets of a set, points that aren't tied left out."""
    check_set(row, ties)
    return brackets(row[0], ties).replace(".", "")


def count_shape(row, shape):
    """Tell how many sets of a row are of a shape."""
    many = row[0]
    arcs = arcs_in(shape)
    if arcs is None or "." in shape:
        raise NoShape("a shape is a text of brackets that fit")
    if len(shape) > many:
        return 0
    partners = partners_of(row)
    only_empty = [[1 for j in range(i, many + 1)] for i in range(many + 1)]
    # For each place of the shape a table: how many sets of each stretch are of that part of the shape
    # which goes from this place on, up to where the brackets round it close.
    tables = [only_empty for place in range(len(shape) + 1)]
    for a, b in arcs[::-1]:
        tables[a] = counts_with_first(partners, tables[a + 1], tables[b + 1])
    return tables[0][0][many]


def counts_with_first(partners, beneath, behind):
    """Tell how many sets each stretch has with a first tie, and beneath it and behind it sets as counted."""
    many = len(partners)
    counts = [[0] for i in range(many + 1)]
    for i, j in stretches_rising(many):
        tied = [beneath[i + 1][k - i - 1] * behind[k + 1][j - k - 1] for k in partners[i] if k < j]
        counts[i].append(counts[i + 1][j - i - 1] + sum(tied))
    return counts


def stretches_of(row, ties):
    """Tell the stretches beside the outermost ties of a set, then those beneath them."""
    outermost = [tie for tie, above in zip(ties, nest_of(row, ties)) if above is None]
    begins = [0] + [b + 1 for a, b in outermost]
    ends = [a for a, b in outermost] + [row[0]]
    return list(zip(begins, ends)) + [(a + 1, b) for a, b in outermost]
