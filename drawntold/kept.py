"""Kept: a table that is edited row by row, with its data and picture kept."""

from drawntold.errors import InvalidPart, Refused, TooMany
from drawntold.meaning import check_table_and_telling, data_of
from drawntold.pictures import picture_of
from drawntold.tables import MOST_ROWS, check_row
from drawntold.tellings import check_telling
from drawntold.values import is_between


class Kept:
    """A table and a telling, with what they draw, as edits leave them."""

    # A state is (table, telling, data, picture); it is never changed, only another one comes.

    def __init__(self, table, telling):
        check_table_and_telling(telling, table)
        self._now = _state(table, telling)
        self._last = None
        self._undone = []
        self._done = []

    @property
    def table(self):
        """The table as it is now."""
        return self._now[0]

    @property
    def telling(self):
        """The telling as it is now."""
        return self._now[1]

    @property
    def data(self):
        """The data of table and telling."""
        return self._now[2]

    @property
    def picture(self):
        """The picture of table and telling."""
        return self._now[3]

    @property
    def edits(self):
        """How many edits undo can take back."""
        return len(self._done)

    def put_in(self, index, row):
        """The row comes at an index, those from there on one further."""
        columns, rows = self._now[0]
        _check_index(index, len(rows))
        check_row(columns, row)
        if len(rows) == MOST_ROWS:
            raise TooMany(MOST_ROWS)
        self._edit_rows(rows[:index] + (row,) + rows[index:])

    def take_out(self, index):
        """The row with an index goes."""
        _, rows = self._now[0]
        _check_index(index, len(rows) - 1)
        self._edit_rows(rows[:index] + rows[index + 1:])

    def change(self, index, row):
        """The row comes in the place of the one with an index."""
        columns, rows = self._now[0]
        _check_index(index, len(rows) - 1)
        check_row(columns, row)
        self._edit_rows(rows[:index] + (row,) + rows[index + 1:])

    def retell(self, telling):
        """Another telling comes in the place of the one there is."""
        table = self._now[0]
        check_telling(table[0], telling)
        self._edit(_state(table, telling))

    def undo(self):
        """All is as it was ahead of the last edit that stands."""
        if not self._done:
            raise Refused("there is no edit to undo")
        self._undone.append(self._now)
        self._go(self._done.pop())

    def redo(self):
        """All is as it was ahead of the last undo."""
        if not self._undone:
            raise Refused("there is nothing to redo")
        self._done.append(self._now)
        self._go(self._undone.pop())

    def moved(self):
        """(gone, come): the entries of data that the last act took away and brought."""
        if self._last is None:
            return ((), ())
        before, after = self._last[2], self._now[2]
        return (_surplus(before, after), _surplus(after, before))

    def drawn(self):
        """The indexes of the panels of the picture that the last act drew anew."""
        if self._last is None:
            return ()
        return _drawn_anew(self._last[3], self._now[3])

    def fork(self):
        """Another Kept of table and telling as they are now."""
        return Kept(self._now[0], self._now[1])

    def _edit_rows(self, rows):
        (columns, _), telling = self._now[:2]
        self._edit(_state((columns, rows), telling))

    def _edit(self, state):
        self._undone = []
        self._done.append(self._now)
        self._go(state)

    def _go(self, state):
        self._last = self._now
        self._now = state


def _state(table, telling):
    told = data_of(telling, table[1])
    return (table, telling, told, picture_of(telling[0], told))


def _check_index(index, last):
    if not is_between(index, 0, last):
        raise InvalidPart("index is that of a row")


def _surplus(entries, others):
    """The tuple of the entries that come more often here than among the others."""
    counts = {}
    for entry in others:
        counts[entry] = counts.get(entry, 0) + 1
    surplus = []
    for entry in entries:
        if counts.get(entry, 0) > 0:
            counts[entry] -= 1
        else:
            surplus.append(entry)
    return tuple(surplus)


def _drawn_anew(before, after):
    """The indexes of a picture's panels that another picture has not so of the same side."""
    mark, panels = before
    other_mark, other_panels = after
    if mark != other_mark:
        return tuple(range(len(other_panels)))
    befores = {side: (axes, marks) for side, axes, marks in panels}
    return tuple([
        index for index, (side, axes, marks) in enumerate(other_panels)
        if befores.get(side) != (axes, marks)
    ])
