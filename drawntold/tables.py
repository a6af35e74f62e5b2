"""Columns, rows and tables, and the sequence of all rows over columns."""

from drawntold.errors import InvalidColumns, InvalidPart, InvalidTable
from drawntold.values import is_between, is_headed, is_integer, is_tuple_of, is_word

MOST_COLUMNS = 4
FARTHEST = 1000
LONGEST_SPAN = 30
MOST_WORDS = 6
MOST_ROWS_OVER = 10000
MOST_ROWS = 40


def is_columns(value):
    """Whether a value is columns."""
    if type(value) != tuple or not 1 <= len(value) <= MOST_COLUMNS:
        return False
    if not all(_is_column(column) for column in value):
        return False
    names = [column[0] for column in value]
    return len(set(names)) == len(names) and _count(value) <= MOST_ROWS_OVER


def is_row(columns, value):
    """Whether a value is a row of the columns."""
    check_columns(columns)
    return fits(columns, value)


def is_table(value):
    """Whether a value is a table."""
    return table_fault(value) is None


def table_fault(value):
    """None of a table, of other values the index of the first row that is wrong."""
    if not is_tuple_of(value, 2):
        return 0
    columns, rows = value
    if not is_columns(columns) or type(rows) != tuple:
        return 0
    for index, row in enumerate(rows[:MOST_ROWS]):
        if not fits(columns, row):
            return index
    return MOST_ROWS if len(rows) > MOST_ROWS else None


def rows_over(columns):
    """All rows of the columns, each ahead of the next one."""
    check_columns(columns)
    rows = [()]
    for _, kind in columns:
        values = _values(kind)
        rows = [row + (value,) for row in rows for value in values]
    return tuple(rows)


def row_count(columns):
    """How many rows there are of the columns."""
    check_columns(columns)
    return _count(columns)


def row_index(columns, row):
    """The index of a row among all rows of the columns."""
    check_columns(columns)
    check_row(columns, row)
    return index_of(columns, row)


def row_at(columns, index):
    """The row of the columns with an index."""
    check_columns(columns)
    if not is_between(index, 0, _count(columns) - 1):
        raise InvalidPart("index is that of a row of the columns")
    return row_of(columns, index)


def plain(table):
    """The table with its rows sorted as in rows_over."""
    check_table(table)
    columns, rows = table
    indexes = sorted([index_of(columns, row) for row in rows])
    return (columns, tuple([row_of(columns, index) for index in indexes]))


def reordered(table, order):
    """The table with its columns in another sequence."""
    check_table(table)
    columns, rows = table
    check_order(columns, order)
    return (picked(columns, order), tuple([picked(row, order) for row in rows]))


def check_columns(columns):
    """Raises InvalidColumns unless these are columns."""
    if not is_columns(columns):
        raise InvalidColumns("columns are told by names and kinds")


def check_table(table):
    """Raises InvalidTable unless this is a table."""
    fault = table_fault(table)
    if fault is not None:
        raise InvalidTable(fault)


def check_row(columns, row):
    """Raises InvalidPart unless this is a row of right columns."""
    if not fits(columns, row):
        raise InvalidPart("row is a row of the columns")


def check_order(columns, order):
    """Raises InvalidPart unless this tells each of right columns once, by its index."""
    if type(order) != tuple or not all(is_integer(index) for index in order):
        raise InvalidPart("order is a tuple of indexes")
    if sorted(order) != list(range(len(columns))):
        raise InvalidPart("order tells each of the columns once")


def fits(columns, value):
    """Whether a value is a row of right columns."""
    if not is_tuple_of(value, len(columns)):
        return False
    return all([_is_value(kind, part) for (_, kind), part in zip(columns, value)])


def index_of(columns, row):
    """The index of a right row among all rows of right columns."""
    index = 0
    for (_, kind), value in zip(columns, row):
        values = _values(kind)
        index = index * len(values) + values.index(value)
    return index


def row_of(columns, index):
    """The row of right columns with a right index."""
    row = ()
    for _, kind in reversed(columns):
        values = _values(kind)
        index, at = divmod(index, len(values))
        row = (values[at],) + row
    return row


def is_index_of(columns, kind_word, value):
    """Whether a value is the index of a column of this kind, of right columns."""
    return is_between(value, 0, len(columns) - 1) and columns[value][1][0] == kind_word


def is_word_of(columns, index, value):
    """Whether a value is one of the words of the column of words with this index."""
    return _is_value(columns[index][1], value)


def picked(members, order):
    """The tuple of the members with these indexes, in their sequence."""
    return tuple([members[index] for index in order])


def _is_column(value):
    return is_tuple_of(value, 2) and is_word(value[0]) and _is_kind(value[1])


def _is_kind(value):
    if is_headed(value, "number", 3):
        return _is_span(value[1], value[2])
    return is_headed(value, "word", 2) and _are_words(value[1])


def _is_span(low, high):
    if not is_between(low, -FARTHEST, FARTHEST):
        return False
    return is_between(high, low, min(low + LONGEST_SPAN, FARTHEST))


def _are_words(value):
    if type(value) != tuple or not 1 <= len(value) <= MOST_WORDS:
        return False
    return all(is_word(word) for word in value) and len(set(value)) == len(value)


def _is_value(kind, value):
    if kind[0] == "number":
        return is_between(value, kind[1], kind[2])
    return type(value) == str and value in kind[1]


def _values(kind):
    """All values of a column of this kind, in the sequence that puts rows ahead of others."""
    if kind[0] == "number":
        return tuple(range(kind[1], kind[2] + 1))
    return kind[1]


def _count(columns):
    count = 1
    for _, kind in columns:
        count = count * len(_values(kind))
    return count
