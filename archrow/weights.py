"""The heaviest sets of a row, of any number of ties or of just so many, with papers of weights."""

from archrow.errors import NoNumber, NoWeights
from archrow.stretches import first_greatest, greatest_table, paper_holds, partners_of, stretches_rising


def heaviest(row, weights):
    """Tell (weight, set): the greatest weight, and of the sets with the fewest ties the first."""
    check_weights(row, weights)
    many, ties = row
    # A set has fewer ties than many + 1, so how many it has decides between equal weights alone.
    worth = {tie: weight * (many + 1) - 1 for tie, weight in zip(ties, weights)}
    found = first_greatest(row, worth, greatest_table(row, worth), 0, many)
    by_tie = weight_by_tie(row, weights)
    return (sum([by_tie[tie] for tie in found]), found)


def heaviest_of(row, weights, many):
    """Tell (weight, set) of the sets of just so many ties, the first of these, or None."""
    check_weights(row, weights)
    if many < 0:
        raise NoNumber("a set has 0 ties or more")
    best = best_by_size(row, weights)
    if many >= len(best):
        return None
    turned, found = best[many]
    return (-turned, found)


def greatest_weights(row, weights):
    """Tell the greatest weights of sets of 0, 1, 2 and so on ties, as far as there are sets."""
    check_weights(row, weights)
    return [-turned for turned, found in best_by_size(row, weights)]


def weights_show(row, weights, paper):
    """Tell whether a paper of weights is let by."""
    check_weights(row, weights)
    return paper_holds(row, weight_by_tie(row, weights), paper)


def check_weights(row, weights):
    """Refuse weights that aren't one for each tie."""
    if len(weights) != len(row[1]):
        raise NoWeights("there is one weight for each tie")


def weight_by_tie(row, weights):
    """Tell the weight of each tie."""
    return {tie: weight for tie, weight in zip(row[1], weights)}


def best_by_size(row, weights):
    """Tell for 0, 1, 2 and so on ties (weight, set) of the heaviest set, the first of these.

    Weights are turned about here, those above 0 to below it: so the least of several such
    tuples is that with the greatest weight, and of these that with the first set.
    """
    many = row[0]
    partners = partners_of(row)
    by_tie = weight_by_tie(row, weights)
    table = [[[(0, [])]] for i in range(many + 1)]
    for i, j in stretches_rising(many):
        best = list(table[i + 1][j - i - 1])
        for k in partners[i]:
            if k < j:
                put_better(best, sets_with((i, k), by_tie, table[i + 1][k - i - 1], table[k + 1][j - k - 1]))
        table[i].append(best)
    return table[0][many]


def sets_with(tie, by_tie, beneath, behind):
    """Tell the best sets that hold a tie, for each number of ties beneath it and behind it."""
    turned = -by_tie[tie]
    return [(turned + low[0] + high[0], [tie] + low[1] + high[1]) for low in beneath for high in behind]


def put_better(best, sets):
    """Put those sets into a list by number of ties that are better than what it has."""
    for turned, found in sets:
        size = len(found)
        # The sets come so that each number of ties is met only behind all lesser ones.
        if size == len(best):
            best.append((turned, found))
        else:
            best[size] = min(best[size], (turned, found))
