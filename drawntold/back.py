"""Back: whether pictures tell all tables of their columns back, and what is led back from data.

A heap tells how often each row comes: it stands for all tables that have these rows so often.
"""

from math import gcd

from drawntold.errors import InvalidPart, Refused
from drawntold.forms import form
from drawntold.fractions import fraction, is_fraction
from drawntold.meaning import place_of
from drawntold.rowforms import amount_of, holds_of
from drawntold.tables import check_columns, check_table, fits, index_of, row_of
from drawntold.tellings import check_telling
from drawntold.values import is_integer, is_tuple_of


def is_heap(columns, value):
    """Whether a value is a heap of the columns."""
    check_columns(columns)
    return _is_heap(columns, value)


def heap_of(table):
    """The heap of a table's rows."""
    check_table(table)
    columns, rows = table
    counts = {}
    for row in rows:
        index = index_of(columns, row)
        counts[index] = counts.get(index, 0) + 1
    return tuple([(row_of(columns, index), counts[index]) for index in sorted(counts)])


def heap_data(columns, telling, heap):
    """The ascending tuple of (entry, many) of the data of all tables that a heap stands for."""
    check_telling(columns, telling)
    if not _is_heap(columns, heap):
        raise InvalidPart("heap is a heap of the columns")
    return _data_of_heap(telling, heap)


def tells_back(columns, telling):
    """("yes",), or ("no", heap, other heap) with two heaps that have one picture."""
    _, word, rows = form(columns, telling)
    lost = _lost(word, rows)
    if lost is None:
        return ("yes",)
    one, other = lost
    return ("no", _named(columns, one), _named(columns, other))


def led_back(columns, telling, told):
    """The heap of which a value is the data, None if there is none."""
    _, word, rows = form(columns, telling)
    if _lost(word, rows) is not None:
        raise Refused("the telling does not tell back")
    counted = _counted(word, rows, told)
    if counted is None:
        return None
    heap = _named(columns, counted)
    return heap if _data_of_heap(telling, heap) == told else None


def _is_heap(columns, value):
    """Whether a value is a heap of right columns."""
    if type(value) != tuple:
        return False
    last = -1
    for part in value:
        if not is_tuple_of(part, 2) or not fits(columns, part[0]):
            return False
        row, count = part
        index = index_of(columns, row)
        if not is_integer(count) or count < 1 or index <= last:
            return False
        last = index
    return True


def _named(columns, counted):
    """The heap of a tuple of (index, count)."""
    return tuple([(row_of(columns, index), count) for index, count in counted])


def _data_of_heap(telling, heap):
    """The data of a right heap, by a right telling."""
    word, amount = telling[3]
    groups = {}
    for row, count in heap:
        if holds_of(telling[1], row):
            told = (amount_of(amount, row), count)
            groups.setdefault(place_of(telling, row), []).append(told)
    entries = []
    for place in sorted(groups):
        for up, many in _ups_of_heap(word, groups[place]):
            entries.append((place + (up,), many))
    return tuple(entries)


def _ups_of_heap(word, told):
    """The list of (up, many) of a group's amounts with their counts."""
    if word == "each":
        counts = {}
        for amount, count in told:
            counts[amount] = counts.get(amount, 0) + count
        return [((amount, 1), counts[amount]) for amount in sorted(counts)]
    return [(_worth_of_heap(word, told), 1)]


def _worth_of_heap(word, told):
    if word == "least":
        return (min([amount for amount, _ in told]), 1)
    if word == "most":
        return (max([amount for amount, _ in told]), 1)
    total = sum([amount * count for amount, count in told])
    if word == "mean":
        return fraction(total, sum([count for _, count in told]))
    # The amount of a count is 1, so that its sum is the count.
    return (total, 1)


def _lost(word, rows):
    """Two tuples of (index, count) with one picture, None if a form has no such two."""
    lost = _lost_alone(word, rows)
    return _lost_together(word, rows) if lost is None else lost


def _lost_alone(word, rows):
    """Two such tuples that are like one another by one row alone, None if there are none."""
    for index, row in enumerate(rows):
        if row is None:
            return ((), ((index, 1),))
    if word in ("least", "most", "mean"):
        return (((0, 1),), ((0, 2),))
    if word == "sum":
        for index, row in enumerate(rows):
            if row[3] == 0:
                return (((index, 1),), ((index, 2),))
    return None


def _lost_together(word, rows):
    """Two such tuples that are like one another by two rows, all being kept; None if there are none."""
    pair = _first_pair([_mark_of(word, row) for row in rows])
    if pair is None:
        return None
    one, other = pair
    if word == "each":
        return (((one, 1),), ((other, 1),))
    amount, other_amount = rows[one][3], rows[other][3]
    divisor = gcd(amount, other_amount)
    count = abs(other_amount) // divisor
    other_count = abs(amount) // divisor
    if (amount > 0) == (other_amount > 0):
        return (((one, count),), ((other, other_count),))
    return (((one, 1),), ((one, count + 1), (other, other_count)))


def _mark_of(word, row):
    """What a row's mark is told by: its place, and of each its amount."""
    return row if word == "each" else row[:3]


def _first_pair(marks):
    """The least pair of indexes of like marks, None if there is none."""
    nexts = {}
    firsts = {}
    for index, mark in enumerate(marks):
        if mark in firsts:
            nexts.setdefault(firsts[mark], index)
        else:
            firsts[mark] = index
    if not nexts:
        return None
    first = min(nexts)
    return (first, nexts[first])


def _counted(word, rows, told):
    """The tuple of (index, count) that told data would be of, None of what can be none."""
    if type(told) != tuple:
        return None
    indexes = {_mark_of(word, row): index for index, row in enumerate(rows)}
    counts = {}
    for part in told:
        if not _is_part(part):
            return None
        (side, hue, across, up), many = part
        mark = (side, hue, across, up[0]) if word == "each" else (side, hue, across)
        index = indexes.get(mark)
        if index is None or index in counts:
            return None
        # What does not go up here is seen when the heap's data are told.
        count = many if word == "each" else up[0] // rows[index][3]
        if count < 1:
            return None
        counts[index] = count
    return tuple([(index, counts[index]) for index in sorted(counts)])


def _is_part(value):
    """Whether a value is (entry, many) by its kinds, so that no other kind passes for an equal one."""
    if not is_tuple_of(value, 2) or not is_tuple_of(value[0], 4) or not is_integer(value[1]):
        return False
    side, hue, across, up = value[0]
    if not all(part is None or type(part) == str for part in (side, hue)):
        return False
    return type(across) in (int, str) and is_fraction(up)
