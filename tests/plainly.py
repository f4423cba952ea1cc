"""What the tests hold the program against: rows made here, and answers found another way."""

from functools import lru_cache
from itertools import combinations
from random import Random


def clash(one, other):
    """Whether two ties can't stand in one set."""
    if set(one) & set(other):
        return True
    return len([point for point in other if one[0] < point < one[1]]) == 1


def all_sets(row):
    """Every set of a row, listed one by one."""
    sets = [[]]
    for tie in row[1]:
        sets += [held + [tie] for held in sets if not any(clash(tie, other) for other in held)]
    return sets


def sets_in_order(row):
    """Every set of a row, in the order of lists."""
    return sorted(all_sets(row))


def best_sets(row):
    """Every set of a row that has the most ties, in the order of lists."""
    sets = all_sets(row)
    most = max(len(held) for held in sets)
    return sorted(held for held in sets if len(held) == most)


def within(row, i, j):
    """The same row with only the ties of a stretch."""
    return (row[0], [(a, b) for a, b in row[1] if i <= a and b < j])


def all_rows(many):
    """Every row of so many points."""
    pairs = list(combinations(range(many), 2))
    for bits in range(2 ** len(pairs)):
        yield (many, [pair for at, pair in enumerate(pairs) if bits >> at & 1])


def a_row(seed, many, number):
    """A row of so many points and ties, always the same for a seed."""
    pairs = list(combinations(range(many), 2))
    return (many, sorted(Random(seed).sample(pairs, number)))


def small_rows():
    """All rows of up to four points, and some of up to nine."""
    for many in range(5):
        yield from all_rows(many)
    for many in range(5, 10):
        pairs = many * (many - 1) // 2
        for seed in range(12):
            yield a_row(seed, many, pairs * (seed + 1) // 12)


def full_row(many):
    """A row with a tie between any two points."""
    return (many, list(combinations(range(many), 2)))


def large_row():
    """A row of forty points with three hundred ties."""
    return a_row(11, 40, 300)


def blocks_row():
    """Forty points, three hundred ties: all of 20 points, all of 15, and a ring of 5."""
    ties = list(combinations(range(20), 2)) + list(combinations(range(20, 35), 2))
    return (40, sorted(ties + [(35, 36), (36, 37), (37, 38), (38, 39), (35, 39)]))


def most_and_count(row):
    """The most ties and how many sets have them, reckoned from the last point backward."""
    many, ties = row
    known = set(ties)

    @lru_cache(maxsize=None)
    def reckon(i, j):
        if i >= j:
            return (0, 1)
        found = [reckon(i, j - 1)]
        for k in range(i, j - 1):
            if (k, j - 1) in known:
                left, right = reckon(i, k), reckon(k + 1, j - 1)
                found.append((left[0] + right[0] + 1, left[1] * right[1]))
        most = max(number for number, count in found)
        return (most, sum(count for number, count in found if number == most))

    return reckon(0, many)


def first_best(row):
    """The first set with the most ties: each tie in turn is taken where the most can still be had."""
    many, ties = row
    most = most_and_count(row)[0]
    held = []
    left = list(ties)
    while left:
        tie = left.pop(0)
        rest = [other for other in left if not clash(tie, other)]
        if len(held) + 1 + most_and_count((many, rest))[0] == most:
            held.append(tie)
            left = rest
    return held


def weight_of(row, weights, held):
    """The weight of a set."""
    return sum(weight for tie, weight in zip(row[1], weights) if tie in held)


def some_weights(seed, row, low, high):
    """A weight for each tie, always the same for a seed."""
    chance = Random(seed)
    return [chance.randint(low, high) for tie in row[1]]


def by_number(row, weights):
    """For each number of ties how many sets have it and their greatest weight, from the last point backward."""
    known = dict(zip(row[1], weights))

    @lru_cache(maxsize=None)
    def reckon(i, j):
        if i >= j:
            return ((1, 0),)
        found = dict(enumerate(reckon(i, j - 1)))
        for k in range(i, j - 1):
            if (k, j - 1) in known:
                for low, (count, weight) in enumerate(reckon(i, k)):
                    for high, (others, more) in enumerate(reckon(k + 1, j - 1)):
                        sums = weight + more + known[k, j - 1]
                        old = found.get(low + high + 1, (0, sums))
                        found[low + high + 1] = (old[0] + count * others, max(old[1], sums))
        return tuple(found[size] for size in range(len(found)))

    return list(reckon(0, row[0]))


def sizes_plainly(row):
    """How many sets have each number of ties."""
    return [count for count, weight in by_number(row, [0] * len(row[1]))]


def weights_plainly(row, weights):
    """The greatest weight for each number of ties."""
    return [weight for count, weight in by_number(row, weights)]


def rule_of_papers(row, paper, weights=None):
    """Whether a paper is let by, word for word as the document has it."""
    many, ties = row
    weighed = list(zip(ties, weights or [1] * len(ties)))
    if len(paper) != many + 1 or any(len(paper[i]) != many + 1 - i for i in range(many + 1)):
        return False
    told = {(i, j): paper[i][j - i] for i in range(many + 1) for j in range(i, many + 1)}
    if any(number < 0 for number in told.values()):
        return False
    if any(told[i, j] < told[i + 1, j] for i, j in told if i < j):
        return False
    return all(
        told[i, j] >= weight + told[i + 1, k] + told[k + 1, j]
        for (i, k), weight in weighed for j in range(k + 1, many + 1)
    )


def brackets_plainly(many, ties):
    """The brackets of a set, point by point."""
    opened = [a for a, b in ties]
    closed = [b for a, b in ties]
    return "".join("(" if point in opened else ")" if point in closed else "." for point in range(many))


def shape_plainly(row, ties):
    """The brackets of a set, points that aren't tied left out."""
    return "".join(sign for sign in brackets_plainly(row[0], ties) if sign != ".")


@lru_cache(maxsize=None)
def all_shapes(number):
    """Every shape of so many ties."""
    if number == 0:
        return [""]
    return [
        f"({inner}){after}"
        for low in range(number) for inner in all_shapes(low) for after in all_shapes(number - 1 - low)
    ]


def a_shape(seed, number):
    """A shape of so many ties, always the same for a seed."""
    chance = Random(seed)
    signs = ""
    opened = 0
    while len(signs) < 2 * number:
        left = 2 * number - len(signs)
        up = opened == 0 or (opened < left and chance.random() < 0.5)
        signs += "(" if up else ")"
        opened += 1 if up else -1
    return signs


def count_shape_plainly(row, shape):
    """How many sets are of a shape, reckoned from the last point and the last bracket backward."""
    known = set(row[1])

    @lru_cache(maxsize=None)
    def split(brackets):
        depth = 0
        for at in range(len(brackets) - 1, -1, -1):
            depth += 1 if brackets[at] == ")" else -1
            if depth == 0:
                return brackets[:at], brackets[at + 1:-1]
        raise AssertionError("these brackets don't fit")

    @lru_cache(maxsize=None)
    def reckon(i, j, brackets):
        if brackets == "":
            return 1
        if j - i < len(brackets):
            return 0
        before, inner = split(brackets)
        found = reckon(i, j - 1, brackets)
        for k in range(i, j - 1):
            if (k, j - 1) in known:
                found += reckon(i, k, before) * reckon(k + 1, j - 1, inner)
        return found

    return reckon(0, row[0], shape)
