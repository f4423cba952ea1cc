"""A desk that is told a row, keeps ties of it, and answers in words.

Every answer is made of the desk's row, the ties that it keeps, and the thing that was read
behind the word, or None where nothing stands behind it.
"""

from archrow.arcs import check_set, row_beside
from archrow.counted import count_sets, set_at, set_number
from archrow.errors import NoForm, NoneYet, NoSet, NoTie
from archrow.kept import most_ties
from archrow.texts import brackets, number_in, pair_in, read_brackets, read_row, ties_shown
from archrow.whole import whole_set

ALONE = ("most", "sets", "kept", "whole", "still")
WITH_MORE = ("row", "set", "number", "keep", "drop")
NUMBER_FIGURES = 60


def most_told(row, kept, thing):
    """Tell the most ties and the first set that has so many."""
    number, ties = most_ties(row)
    return f"{number}{ties_shown(ties)}"


def sets_told(row, kept, thing):
    """Tell how many sets there are."""
    return str(count_sets(row))


def set_told(row, kept, thing):
    """Tell the set of a number."""
    return brackets(row[0], set_at(row, thing))


def number_told(row, kept, thing):
    """Tell the number of a set."""
    many, ties = thing
    if many != row[0]:
        raise NoSet("the row has another number of points")
    return str(set_number(row, ties))


def how_many_told(row, kept, thing):
    """Tell how many ties are kept."""
    return f"kept {len(kept)}"


def kept_told(row, kept, thing):
    """Tell the kept ties."""
    return brackets(row[0], kept)


def whole_told(row, kept, thing):
    """Tell whether the row has a whole set."""
    return "no" if whole_set(row) is None else "yes"


def still_told(row, kept, thing):
    """Tell the most ties that a set with all kept ones has."""
    left = row
    for tie in kept:
        left = row_beside(left, tie)
    return str(len(kept) + most_ties(left)[0])


ANSWERS = {
    "most": most_told,
    "sets": sets_told,
    "set": set_told,
    "number": number_told,
    "keep": how_many_told,
    "drop": how_many_told,
    "kept": kept_told,
    "whole": whole_told,
    "still": still_told,
}


class Desk:
    """A desk with a row, once it was told one, and the ties of it that are kept."""

    def __init__(self):
        self.row = None
        self.kept = []

    def say(self, row):
        """Answer what is told, in words."""
        word, text = word_and_text(row)
        if word == "row":
            self.row = read_row(text)
            self.kept = []
            return f"points {self.row[0]}"
        # What can't be read is refused ahead of a desk without a row.
        thing = thing_read(word, text)
        if self.row is None:
            raise NoneYet("the desk was told no row yet")
        self.kept = kept_then(self.row, self.kept, word, thing)
        answer = ANSWERS[word]
        return answer(self.row, self.kept, thing)


def word_and_text(row):
    """Tell the word of what a desk is told, and the text behind the blank."""
    if not isinstance(row, str):
        raise NoForm("a desk is told a text")
    word, blank, text = row.partition(" ")
    known = word in ALONE if blank == "" else word in WITH_MORE
    if not known:
        raise NoForm("the desk knows no such word, or not with this behind it")
    return (word, text)


def thing_read(word, text):
    """Tell what the text behind a word stands for, or None where the word stands alone."""
    if word in ALONE:
        return None
    if word == "number":
        return read_brackets(text)
    thing = number_in(text, NUMBER_FIGURES) if word == "set" else pair_in(text)
    if thing is None:
        raise NoForm("this isn't what stands behind the word")
    return thing


def kept_then(row, kept, word, thing):
    """Tell the ties that are kept once a word was told."""
    if word == "keep":
        return kept_with(row, kept, thing)
    if word == "drop":
        return kept_without(kept, thing)
    return kept


def kept_with(row, kept, tie):
    """Tell the kept ties, sorted, with one more."""
    if tie not in row[1]:
        raise NoTie("this is no tie of the row")
    ties = sorted(kept + [tie])
    check_set(row, ties)
    return ties


def kept_without(kept, tie):
    """Tell the kept ties with one less."""
    if tie not in kept:
        raise NoTie("this tie isn't kept")
    return [other for other in kept if other != tie]
