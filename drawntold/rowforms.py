"""Row formulas: amounts, conditions and keys, and what they come to of a row."""

from drawntold.errors import InvalidPart
from drawntold.tables import check_columns, check_row, check_table, is_index_of, is_word_of
from drawntold.values import is_between, is_headed

MOST_TUPLES = 15
FARTHEST_NUMBER = 1000
FARTHEST_FACTOR = 20
WIDEST_BIN = 100


def is_amount(columns, value):
    """Whether a value is an amount of the columns."""
    check_columns(columns)
    return _is_formula(columns, "amount", value)


def is_condition(columns, value):
    """Whether a value is a condition of the columns."""
    check_columns(columns)
    return _is_formula(columns, "condition", value)


def is_key(columns, value):
    """Whether a value is a key of the columns."""
    check_columns(columns)
    return _is_formula(columns, "key", value)


def reckoned(columns, amount, row):
    """What an amount comes to of a row, an integer."""
    check_columns(columns)
    _check_formula(columns, "amount", amount)
    check_row(columns, row)
    return amount_of(amount, row)


def holds(columns, condition, row):
    """Whether a condition holds of a row."""
    check_columns(columns)
    _check_formula(columns, "condition", condition)
    check_row(columns, row)
    return holds_of(condition, row)


def keyed(columns, key, row):
    """What a key comes to of a row, a word or an integer."""
    check_columns(columns)
    _check_formula(columns, "key", key)
    check_row(columns, row)
    return key_of(key, row)


def kept_rows(table, condition):
    """The table of the rows of which a condition holds."""
    check_table(table)
    columns, rows = table
    _check_formula(columns, "condition", condition)
    return (columns, tuple([row for row in rows if holds_of(condition, row)]))


def amount_of(amount, row):
    """What a right amount comes to of a right row."""
    word = amount[0]
    if word == "one":
        return 1
    if word == "number":
        return amount[1]
    if word == "of":
        return row[amount[1]]
    if word == "add":
        return amount_of(amount[1], row) + amount_of(amount[2], row)
    if word == "times":
        return amount[1] * amount_of(amount[2], row)
    width = amount[2]
    return amount_of(amount[1], row) // width * width


def holds_of(condition, row):
    """Whether a right condition holds of a right row."""
    word = condition[0]
    if word == "is":
        return row[condition[1]] == condition[2]
    if word == "below":
        return amount_of(condition[1], row) < amount_of(condition[2], row)
    if word == "same":
        return amount_of(condition[1], row) == amount_of(condition[2], row)
    if word == "not":
        return not holds_of(condition[1], row)
    if word == "and":
        return holds_of(condition[1], row) and holds_of(condition[2], row)
    return holds_of(condition[1], row) or holds_of(condition[2], row)


def key_of(key, row):
    """What a right key comes to of a right row."""
    if key[0] == "word":
        return row[key[1]]
    return amount_of(key, row)


def _check_formula(columns, sort, value):
    if not _is_formula(columns, sort, value):
        raise InvalidPart("the formula is not one of its sort over the columns")


def _is_formula(columns, sort, value):
    """Whether a value is an amount, a condition, a key, as the sort says, of right columns."""
    pending = [(sort, value)]
    tuples = 0
    while pending:
        part_sort, part = pending.pop()
        within = _within(columns, part_sort, part)
        tuples += 1
        if within is None or tuples > MOST_TUPLES:
            return False
        pending.extend(within)
    return True


def _within(columns, sort, value):
    """The list of the (sort, formula) directly within; None of what is no formula of the sort."""
    if sort == "condition":
        return _within_condition(columns, value)
    if sort == "key" and is_headed(value, "word", 2):
        return [] if is_index_of(columns, "word", value[1]) else None
    return _within_amount(columns, value)


def _within_amount(columns, value):
    if is_headed(value, "one", 1):
        return []
    if is_headed(value, "number", 2) and is_between(value[1], -FARTHEST_NUMBER, FARTHEST_NUMBER):
        return []
    if is_headed(value, "of", 2) and is_index_of(columns, "number", value[1]):
        return []
    if is_headed(value, "add", 3):
        return [("amount", value[1]), ("amount", value[2])]
    if is_headed(value, "times", 3) and is_between(value[1], -FARTHEST_FACTOR, FARTHEST_FACTOR):
        return [("amount", value[2])]
    if is_headed(value, "bin", 3) and is_between(value[2], 1, WIDEST_BIN):
        return [("amount", value[1])]
    return None


def _within_condition(columns, value):
    if is_headed(value, "is", 3):
        column, word = value[1:]
        right = is_index_of(columns, "word", column) and is_word_of(columns, column, word)
        return [] if right else None
    if is_headed(value, "below", 3) or is_headed(value, "same", 3):
        return [("amount", value[1]), ("amount", value[2])]
    if is_headed(value, "not", 2):
        return [("condition", value[1])]
    if is_headed(value, "and", 3) or is_headed(value, "or", 3):
        return [("condition", value[1]), ("condition", value[2])]
    return None
