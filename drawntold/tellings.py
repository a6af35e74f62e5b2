"""Tellings: which rows are drawn, what goes across and up, which hue, which panel."""

from drawntold.errors import InvalidPart, InvalidTelling
from drawntold.rowforms import is_amount, is_condition, is_key
from drawntold.tables import check_columns, check_order
from drawntold.values import is_between, is_headed, is_tuple_of

MEMBERS = 6
MARKS = ("point", "bar", "line")
WORTHS = ("sum", "least", "most", "mean")
# With a word ahead of them, the second member tells a column, and so it is nowhere else.
AHEAD_OF_COLUMN = ("is", "of", "word")


def telling_fault(columns, value):
    """None of a telling of the columns, of other values the place of the first fault."""
    check_columns(columns)
    if not is_tuple_of(value, MEMBERS):
        return ()
    for part in range(MEMBERS):
        if not _is_right(columns, value, part):
            return (part,)
    return None


def is_telling(columns, value):
    """Whether a value is a telling of the columns."""
    return telling_fault(columns, value) is None


def columns_in(columns, telling):
    """The indexes of the columns that are written in a telling."""
    check_telling(columns, telling)
    return tuple(sorted(set(columns_written(telling))))


def retold(columns, telling, order):
    """The telling for the columns in another sequence."""
    check_telling(columns, telling)
    check_order(columns, order)
    return rewritten(telling, order)


def swapped(columns, telling, part, what):
    """The telling with one of its members in place of another."""
    check_telling(columns, telling)
    if not is_between(part, 0, MEMBERS - 1):
        raise InvalidPart("part is the index of a member")
    told = telling[:part] + (what,) + telling[part + 1:]
    if not is_telling(columns, told):
        raise InvalidPart("the telling with this member is none")
    return told


def check_telling(columns, telling):
    """Raises InvalidColumns unless these are columns, then InvalidTelling unless a telling of them."""
    fault = telling_fault(columns, telling)
    if fault is not None:
        raise InvalidTelling(fault)


def columns_written(part):
    """The columns in a part of a telling, as they are told there, as often as they stand there."""
    if type(part) != tuple:
        return []
    if part[0] in AHEAD_OF_COLUMN:
        return [part[1]]
    return [column for within in part for column in columns_written(within)]


def rewritten(part, order):
    """A part of a telling, with each column told by its index in another sequence of them."""
    if type(part) != tuple:
        return part
    if part[0] in AHEAD_OF_COLUMN:
        return (part[0], order.index(part[1])) + part[2:]
    return tuple([rewritten(within, order) for within in part])


def _is_right(columns, telling, part):
    """Whether the member with this index is right, those ahead of it being so."""
    member = telling[part]
    if part == 0:
        return _is_one_of(MARKS, member)
    if part == 1:
        return is_condition(columns, member)
    if part == 2:
        return is_key(columns, member)
    if part == 3:
        return _is_measure(columns, telling[0], member)
    return member is None or _is_key_by_word(columns, member)


def _is_one_of(words, value):
    return type(value) == str and value in words


def _is_measure(columns, mark, value):
    if is_headed(value, "count", 2):
        return is_headed(value[1], "one", 1)
    if is_headed(value, "each", 2):
        return mark == "point" and is_amount(columns, value[1])
    if not is_tuple_of(value, 2):
        return False
    return _is_one_of(WORTHS, value[0]) and is_amount(columns, value[1])


def _is_key_by_word(columns, value):
    return is_headed(value, "word", 2) and is_key(columns, value)
