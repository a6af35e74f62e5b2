"""A sheet of signs: a panel of a picture, drawn in cells, with its rulers and legend.

The columns of a sheet are counted from the left and its rows from below, so that the k-th of so
many has the places from 100 times k by their count to less than 100 times (k + 1) by it.
"""

from drawntold.errors import InvalidCount, InvalidPart
from drawntold.fractions import below, fraction, minus, over, plus, times
from drawntold.pictures import hues_of, place_on
from drawntold.values import is_between

WIDEST = 120
TALLEST = 60
LETTERS = "abcdefghijklmnopqrstuvwxyz"
NO_HUE = "o"
NOTHING = "."
SEVERAL = "*"


def sheet(told, panel, wide, tall):
    """The tuple of the rows of signs of a panel, the topmost one first."""
    _check(told, panel, wide, tall)
    mark, panels = told
    signs = {hue: sign for sign, hue in legend(told)}
    cells = {}
    for one in panels[panel][2]:
        sign = signs[one[0] if mark == "line" else one[-1]]
        for cell in _cells_of(mark, one, wide, tall):
            cells[cell] = sign if cells.get(cell, sign) == sign else SEVERAL
    rows = []
    for row in reversed(range(tall)):
        rows.append("".join([cells.get((column, row), NOTHING) for column in range(wide)]))
    return tuple(rows)


def legend(told):
    """The tuple of (sign, hue) for each hue of a picture."""
    hues = hues_of(told)
    if hues == [None]:
        return ((NO_HUE, None),)
    return tuple([(LETTERS[k], hue) for k, hue in enumerate(hues)])


def rulers(told, panel, wide, tall):
    """(across, up): the strings that show where ticks and words are, up from the top."""
    _check(told, panel, wide, tall)
    across, up = told[1][panel][1]
    return (_ruler(across, wide), _ruler(up, tall)[::-1])


def plate(told, panel, wide, tall):
    """The tuple of the rows of a sheet behind their signs of up, and of + with across behind it."""
    across, up = rulers(told, panel, wide, tall)
    lines = [sign + row for sign, row in zip(up, sheet(told, panel, wide, tall))]
    return tuple(lines + ["+" + across])


def _check(told, panel, wide, tall):
    if not is_between(panel, 0, len(told[1]) - 1):
        raise InvalidPart("panel is the index of a panel")
    if not is_between(wide, 1, WIDEST):
        raise InvalidCount("wide is an integer from 1 to 120")
    if not is_between(tall, 1, TALLEST):
        raise InvalidCount("tall is an integer from 1 to 60")


def _ruler(axis, count):
    values = axis[1] if axis[0] == "word" else axis[3]
    marked = [_index_at(place_on(axis, value), count) for value in values]
    return "".join(["|" if k in marked else "-" for k in range(count)])


def _index_at(place, count):
    """The index of the one of so many columns or rows that a place is in."""
    return min(_parts_below(place, count), count - 1)


def _index_ahead(place, count):
    """The index of the last one of so many that has places less than this one."""
    top, bottom = place
    return min(-(-top * count // (100 * bottom)) - 1, count - 1)


def _parts_below(place, count):
    """How many columns or rows of so many to 100 are below a place; less than 0 below 0."""
    top, bottom = place
    return top * count // (100 * bottom)


def _cells_of(mark, one, wide, tall):
    """The list of the (column, row) in which a mark is shown, some perhaps twice."""
    if mark == "point":
        return [(_index_at(one[0], wide), _index_at(one[1], tall))]
    if mark == "bar":
        return _cells_of_bar(one, wide, tall)
    points = one[1]
    # From the first point to itself, too, for a line that has no other one.
    cells = _cells_of_stretch(points[0], points[0], wide, tall)
    for start, end in zip(points, points[1:]):
        cells.extend(_cells_of_stretch(start, end, wide, tall))
    return cells


def _cells_of_bar(bar, wide, tall):
    left, low, right, high, _ = bar
    if low == high:
        return []
    columns = _parts_between(left, right, wide)
    rows = _parts_between(low, high, tall)
    return [(column, row) for column in columns for row in rows]


def _parts_between(low, high, count):
    """The list of the indexes of those of so many that have a width in common with low to high."""
    return list(range(max(_parts_below(low, count), 0), _index_ahead(high, count) + 1))


def _cells_of_stretch(start, end, wide, tall):
    """The list of the cells with some point of a stretch, the end of which is not to the left."""
    cells = []
    height = start[1]
    last = _index_at(end[0], wide)
    for column in range(_index_at(start[0], wide), last):
        # What lies on the edge to the next column is in that one.
        edge = _height_at(start, end, fraction(100 * (column + 1), wide))
        cells.extend([(column, row) for row in _rows_until(height, edge, tall)])
        height = edge
    rows = sorted([_index_at(height, tall), _index_at(end[1], tall)])
    return cells + [(last, row) for row in range(rows[0], rows[1] + 1)]


def _height_at(start, end, x):
    """The height of a stretch over a place between its ends."""
    part = over(minus(x, start[0]), minus(end[0], start[0]))
    return plus(start[1], times(part, minus(end[1], start[1])))


def _rows_until(height, edge, tall):
    """The list of the rows with heights from one that is had to one that is not."""
    first = _index_at(height, tall)
    # A stretch that goes up to the least height of a row has no other one of that row.
    last = _index_ahead(edge, tall) if below(height, edge) else _index_at(edge, tall)
    return list(range(min(first, last), max(first, last) + 1))
