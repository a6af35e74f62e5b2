"""Forms: what a telling says of each row that there is of its columns."""

from drawntold.meaning import place_of
from drawntold.rowforms import amount_of, holds_of
from drawntold.tables import rows_over
from drawntold.tellings import check_telling


def form(columns, telling):
    """The tuple (mark, word, rows) by which tellings are compared, rows as in rows_over."""
    check_telling(columns, telling)
    word = telling[3][0]
    rows = tuple([_told_of(telling, row) for row in rows_over(columns)])
    return (telling[0], "sum" if word == "count" else word, rows)


def _told_of(telling, row):
    """None of a row that is not kept, else (side, hue, across, amount)."""
    if not holds_of(telling[1], row):
        return None
    return place_of(telling, row) + (amount_of(telling[3][1], row),)
