"""What a telling says of a table: its kept rows, their groups, and the data of its picture."""

from drawntold.fractions import fraction
from drawntold.rowforms import amount_of, holds_of, key_of
from drawntold.tables import check_table
from drawntold.tellings import check_telling


def data(telling, table):
    """The ascending tuple of (side, hue, across, up), an entry for each mark or point of a line."""
    check_table_and_telling(telling, table)
    return data_of(telling, table[1])


def groups(telling, table):
    """The ascending tuple of (side, hue, across, amounts) of all groups."""
    check_table_and_telling(telling, table)
    return _groups_of(telling, table[1])


def kept_in(telling, table):
    """The tuple of the rows of the table that the telling keeps."""
    check_table_and_telling(telling, table)
    return tuple(_kept_of(telling, table[1]))


def check_table_and_telling(telling, table):
    """Raises InvalidTable unless this is a table, then InvalidTelling unless a telling of it."""
    check_table(table)
    check_telling(table[0], telling)


def data_of(telling, rows):
    """The data of right rows, by a right telling."""
    told = []
    for side, hue, across, amounts in _groups_of(telling, rows):
        told.extend([(side, hue, across, up) for up in ups_of(telling[3][0], amounts)])
    return tuple(told)


def place_of(telling, row):
    """The tuple (side, hue, across) of a right row, by a right telling."""
    _, _, across, _, hue, side = telling
    return (_pane_of(side, row), _pane_of(hue, row), key_of(across, row))


def ups_of(word, amounts):
    """The list of what a group's sorted amounts draw, by the measure's word."""
    if word == "each":
        return [(amount, 1) for amount in amounts]
    return [_worth(word, amounts)]


def _groups_of(telling, rows):
    amounts = {}
    for row in _kept_of(telling, rows):
        amounts.setdefault(place_of(telling, row), []).append(amount_of(telling[3][1], row))
    return tuple([place + (tuple(sorted(amounts[place])),) for place in sorted(amounts)])


def _kept_of(telling, rows):
    return [row for row in rows if holds_of(telling[1], row)]


def _pane_of(key, row):
    return None if key is None else key_of(key, row)


def _worth(word, amounts):
    if word == "count":
        return (len(amounts), 1)
    if word == "sum":
        return (sum(amounts), 1)
    if word == "least":
        return (amounts[0], 1)
    if word == "most":
        return (amounts[-1], 1)
    return fraction(sum(amounts), len(amounts))
