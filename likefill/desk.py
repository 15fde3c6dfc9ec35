"""A desk: takes rows of words, and tells texts."""

from likefill.clashes import clash
from likefill.errors import NoRow
from likefill.oneside import ways
from likefill.tables import table
from likefill.terms import alike, flat
from likefill.texts import read, write


def told_alike(signs, one, other):
    """`yes` where the two are alike, else `no`."""
    return "yes" if alike(signs, one, other) else "no"


def told_many(signs, one, other):
    """How many fillings the table of the two has, in figures."""
    return str(len(table(signs, one, other)))


def told_ways(signs, one, other):
    """How many ways there are of the one, a pattern, and the other, in figures."""
    return str(len(ways(signs, one, other)))


def told_clash(signs, one, other):
    """The word of the clash of the two, or `none`."""
    found = clash(signs, one, other)
    return "none" if found is None else found[0]


DEEDS_OF_TWO = {"alike": told_alike, "many": told_many, "ways": told_ways, "clash": told_clash}


class Desk:
    """Takes rows that speak of terms of some signs."""

    def __init__(self, signs):
        self.signs = signs

    def take(self, row):
        """What the row asks for, as a text."""
        words = words_of(row)
        if len(words) == 2 and words[0] == "flat":
            return write(self.signs, flat(self.signs, read(self.signs, words[1])))
        if len(words) != 4 or words[0] not in DEEDS_OF_TWO or words[2] != "=":
            raise NoRow("this is no row that a desk takes")
        one = read(self.signs, words[1])
        other = read(self.signs, words[3])
        deed = DEEDS_OF_TWO[words[0]]
        return deed(self.signs, one, other)


def words_of(row):
    """The words of the row, between which stands one blank."""
    if not isinstance(row, str):
        raise NoRow("a row is a text")
    # Only the blank parts words: a tab or a line feed is a sign of the word that it stands in.
    words = row.split(" ")
    if "" in words:
        raise NoRow("a word has one sign at least, and between words stands one blank")
    return words
