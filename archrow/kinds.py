"""Rows whose points have kinds, of which only some may pair, and only over a gap."""

from archrow.arcs import row_beside
from archrow.errors import NoGap, NoPlace
from archrow.kept import most_ties


def row_of_kinds(kinds, pairs, gap):
    """Tell the row of all ties that the kinds and the gap let."""
    check_gap(gap)
    fits = pairs_either_way(pairs)
    many = len(kinds)
    ties = [(a, b) for a in range(many) for b in range(a + 1, many) if b - a > gap and (kinds[a], kinds[b]) in fits]
    return (many, ties)


def most_of_kinds(kinds, pairs, gap):
    """Tell (number, set): the most ties that the kinds let, and the first set that has so many."""
    return most_ties(row_of_kinds(kinds, pairs, gap))


def best_kinds(kinds, pairs, gap, place):
    """Tell (number, kinds): the most ties that a kind put in a point's place lets, and all such kinds."""
    row = row_of_kinds(kinds, pairs, gap)
    if not 0 <= place < len(kinds):
        raise NoPlace("this is no point of the row")
    fits = pairs_either_way(pairs)
    alone = most_without(row, place)
    # What the rest of the row can have beside a tie of the point doesn't hang on the point's kind.
    tied = {other: most_beside(row, place, other) for other in range(len(kinds)) if abs(other - place) > gap}
    numbers = {}
    for kind in sorted(set(kinds) | {either for pair in pairs for either in pair}):
        numbers[kind] = max([alone] + [tied[other] for other in tied if (kind, kinds[other]) in fits])
    best = max(numbers.values())
    return (best, [kind for kind in numbers if numbers[kind] == best])


def most_with(kinds, pairs, gap, place, kind):
    """Tell the most ties where a point of a kind is put in ahead of a place."""
    check_gap(gap)
    if not 0 <= place <= len(kinds):
        raise NoPlace("a point is put in ahead of a point or behind the last")
    return most_of_kinds(kinds[:place] + [kind] + kinds[place:], pairs, gap)[0]


def check_gap(gap):
    """Refuse a gap below 0."""
    if gap < 0:
        raise NoGap("a gap is of 0 points or more")


def pairs_either_way(pairs):
    """Tell the pairs, each both ways about, as keys."""
    fits = {}
    for one, other in pairs:
        fits[(one, other)] = True
        fits[(other, one)] = True
    return fits


def most_without(row, point):
    """Tell the most ties where a point stays free."""
    return most_ties((row[0], [tie for tie in row[1] if point not in tie]))[0]


def most_beside(row, point, other):
    """Tell the most ties where two points are tied, whether or not the row has that tie."""
    return 1 + most_ties(row_beside(row, (min(point, other), max(point, other))))[0]
