"""Sameness: whether two tellings draw one picture of every table, else the least table that parts them."""

from drawntold.forms import form
from drawntold.meaning import ups_of
from drawntold.tables import row_at


def alike(columns, telling, other_telling):
    """("yes",), or ("no", rows) with the rows of the least table of which the pictures are unlike."""
    mark, word, rows = form(columns, telling)
    other_mark, other_word, other_rows = form(columns, other_telling)
    if mark != other_mark:
        return ("no", ())
    parting = _parting_row(rows, other_rows)
    if parting is None and word != other_word:
        parting = _parting_pair(word, other_word, rows)
    if parting is None:
        return ("yes",)
    return ("no", tuple([row_at(columns, index) for index in parting]))


def _parting_row(rows, other_rows):
    """The tuple of the first index at which two forms' rows are unlike, None if there is none."""
    for index, row in enumerate(rows):
        if row != other_rows[index]:
            return (index,)
    return None


def _parting_pair(word, other_word, rows):
    """The least pair of indexes of rows that two unlike measures part, None if there is none."""
    firsts = _first_indexes(rows)
    for index, row in enumerate(rows):
        # The first amount that parts this row has its first row here or behind, since any row
        # ahead of this one that parts it would have been parted from it already.
        indexes = firsts[row[:3]] if row is not None else {}
        for amount in indexes:
            if _are_parted(word, other_word, sorted([row[3], amount])):
                return (index, indexes[amount])
    return None


def _first_indexes(rows):
    """For each place of kept rows, the index of the first row of each amount, in their sequence."""
    firsts = {}
    for index, row in enumerate(rows):
        if row is not None:
            firsts.setdefault(row[:3], {}).setdefault(row[3], index)
    return firsts


def _are_parted(word, other_word, amounts):
    return ups_of(word, amounts) != ups_of(other_word, amounts)
