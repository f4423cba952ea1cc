"""Sets written with brackets and rows written with figures, and both read again."""

from archrow.arcs import check_set, row_of
from archrow.errors import NoRow, NoSet, NoText

FIGURES = "0123456789"
POINT_FIGURES = 3


def brackets(many, ties):
    """Tell a set of so many points as a text with a sign for each point."""
    if many < 0:
        raise NoRow("a row has 0 points or more")
    if any([not 0 <= a < b < many for a, b in ties]):
        raise NoSet("a tie goes from a point to a later one of the row")
    # Whatever row it is a set of, it is one of the row that has its ties alone.
    check_set((many, ties), ties)
    signs = ["." for point in range(many)]
    for a, b in ties:
        signs[a] = "("
        signs[b] = ")"
    return "".join(signs)


def read_brackets(text):
    """Tell (many, set) of a text with a sign for each point."""
    ties = arcs_in(text)
    if ties is None:
        raise NoText("a set is written with points and with brackets that fit")
    return (len(text), ties)


def show_row(row):
    """Tell a row as a text N: a-b a-b."""
    many, ties = row
    return f"{many}:{ties_shown(ties)}"


def read_row(text):
    """Tell the row of a text N: a-b a-b."""
    head, colon, tail = text.partition(":")
    many = number_in(head, POINT_FIGURES)
    # Each pair has one blank ahead, so nothing may stand ahead of the first blank.
    ahead, *pairs = tail.split(" ")
    ties = [pair_in(pair) for pair in pairs]
    if many is None or colon == "" or ahead != "" or None in ties:
        raise NoText("a row is written N: a-b a-b")
    if any([a > b for a, b in ties]) or ties != sorted(set(ties)):
        raise NoText("the ties of a row are written sorted, each once, the lesser point ahead")
    return row_of(many, ties)


def arcs_in(text):
    """Tell the ties, sorted, that the brackets of a text make between its places, or None where they don't fit."""
    waiting = []
    arcs = []
    for at, sign in enumerate(text):
        if sign == "(":
            waiting.append(at)
        elif sign == ")" and waiting:
            arcs.append((waiting.pop(), at))
        elif sign != ".":
            return None
    return None if waiting else sorted(arcs)


def ties_shown(ties):
    """Tell ties as a text, each with a blank ahead."""
    return "".join([f" {a}-{b}" for a, b in ties])


def pair_in(text):
    """Tell (a, b) of a text a-b, whichever is greater, or None where it is another text."""
    ahead, dash, behind = text.partition("-")
    a = number_in(ahead, POINT_FIGURES)
    b = number_in(behind, POINT_FIGURES)
    return None if a is None or b is None else (a, b)


def number_in(text, longest):
    """Tell the number of a text of figures, no more than so many, or None where it is another text."""
    if not 1 <= len(text) <= longest or any([sign not in FIGURES for sign in text]):
        return None
    if text[0] == "0" and text != "0":
        return None
    return int(text)
