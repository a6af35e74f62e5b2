"""[7], with [2], [3], [4]: columns, rows and tables."""

import itertools
import random
import unittest

from drawntold import tables
from drawntold.errors import InvalidColumns, InvalidPart, InvalidTable
from drawntold.tables import (
    is_columns, is_row, is_table, plain, reordered, row_at, row_count, row_index, rows_over,
    table_fault,
)
from helper import (
    AGE, CITY, COLUMNS, ODD_VALUES, RIGHT_COLUMNS, TEN_THOUSAND, WRONG_COLUMNS, WRONG_ROWS, Case,
    Number, Row,
)

EXAMPLES = """
>>> columns = (("city", ("word", ("rome", "oslo"))), ("age", ("number", 8, 10)))
>>> [row_count(columns), rows_over(columns)[:4], row_index(columns, ("oslo", 8)), row_at(columns, 5)]
[6, (('rome', 8), ('rome', 9), ('rome', 10), ('oslo', 8)), 3, ('oslo', 10)]
>>> table = (columns, (("oslo", 9), ("rome", 10), ("oslo", 8)))
>>> [plain(table)[1], reordered(table, (1, 0))[1], table_fault((columns, (("oslo", 9), ("rome", 11))))]
[(('rome', 10), ('oslo', 8), ('oslo', 9)), ((9, 'oslo'), (10, 'rome'), (8, 'oslo')), 1]
>>> three = (("a", ("number", 0, 9)), ("b", ("number", 0, 9)), ("c", ("number", 0, 9)))
>>> reordered((three, ((1, 2, 3),)), (1, 2, 0))[1]
((2, 3, 1),)
"""

TABLE = (COLUMNS, (("oslo", 9), ("rome", 10), ("oslo", 8)))


def values_of(kind):
    """All values of a kind, looked at in another way."""
    if kind[0] == "word":
        return list(kind[1])
    return [n for n in range(-1000, 1001) if kind[1] <= n <= kind[2]]


def is_ahead(columns, row, other):
    """Whether a row is ahead of another one, as the words of the document say it."""
    for (_, kind), value, other_value in zip(columns, row, other):
        if value != other_value:
            if kind[0] == "number":
                return value < other_value
            return kind[1].index(value) < kind[1].index(other_value)
    return False


def some_table(seed):
    chance = random.Random(seed)
    columns = chance.choice(RIGHT_COLUMNS)
    rows = []
    for _ in range(chance.choice((0, 1, 2, 5, 40))):
        row = tuple(chance.choice(values_of(kind)) for _, kind in columns)
        rows.append(chance.choice(rows) if rows and chance.random() < 0.3 else row)
    return (columns, tuple(rows))


class ColumnTests(Case):
    def test_examples_of_the_document(self):
        self.examples(EXAMPLES, dict(vars(tables)))

    def test_right_columns(self):
        for columns in RIGHT_COLUMNS:
            self.same(is_columns(columns), True, columns)

    def test_wrong_columns(self):
        for value in WRONG_COLUMNS:
            self.same(is_columns(value), False, str(value)[:99])

    def test_numbers_at_their_bounds_and_one_beyond(self):
        for low in (-1001, -1000, -999, -31, -1, 0, 1, 969, 970, 971, 1000, 1001):
            for wide in (-1, 0, 1, 29, 30, 31):
                high = low + wide
                wanted = -1000 <= low <= high <= 1000 and 0 <= wide <= 30
                self.same(is_columns((("a", ("number", low, high)),)), wanted, (low, high))

    def test_one_to_four_columns(self):
        for count in range(7):
            columns = tuple((name, ("number", 0, 1)) for name in "abcdef"[:count])
            self.same(is_columns(columns), 1 <= count <= 4, count)

    def test_one_to_six_words(self):
        for count in range(9):
            self.same(is_columns((("a", ("word", tuple("hgfedcba"[:count]))),)), 1 <= count <= 6)

    def test_rows_over_at_most_ten_thousand(self):
        self.same(row_count(TEN_THOUSAND), 10000)
        more = (("a", ("number", 1, 15)), ("b", ("number", 1, 23)), ("c", ("number", 1, 29)))
        self.same(is_columns(more), False)
        self.same(is_columns(more[:2] + (("c", ("number", 1, 28)),)), True)

    def test_every_call_refuses_wrong_columns(self):
        for value in WRONG_COLUMNS:
            for call in (rows_over, row_count):
                self.raises(InvalidColumns, call, value)
            for call in (is_row, row_index, row_at):
                self.raises(InvalidColumns, call, value, ("rome", 8))
                self.raises(InvalidColumns, call, value, 0)
                self.raises(InvalidColumns, call, value, value)

    def test_arguments_by_name(self):
        self.same(is_columns(value=COLUMNS), True)
        self.same(is_row(value=("rome", 8), columns=COLUMNS), True)
        self.same(is_table(value=TABLE), True)
        self.same(table_fault(value=TABLE), None)
        self.same(len(rows_over(columns=COLUMNS)), 6)
        self.same(row_count(columns=COLUMNS), 6)
        self.same(row_index(row=("oslo", 8), columns=COLUMNS), 3)
        self.same(row_at(index=3, columns=COLUMNS), ("oslo", 8))
        self.same(plain(table=TABLE)[1][0], ("rome", 10))
        self.same(reordered(order=(1, 0), table=TABLE)[1][0], (9, "oslo"))


class RowTests(Case):
    def test_right_rows(self):
        for city in ("rome", "oslo"):
            for age in (8, 9, 10):
                self.same(is_row(COLUMNS, (city, age)), True)

    def test_wrong_rows(self):
        for value in WRONG_ROWS:
            self.same(is_row(COLUMNS, value), False, str(value)[:99])
            self.raises(InvalidPart, row_index, COLUMNS, value)

    def test_a_word_of_another_column_is_none_here(self):
        columns = (("a", ("word", ("x", "y"))), ("b", ("word", ("y", "z"))))
        self.same([is_row(columns, row) for row in (("x", "z"), ("y", "y"), ("z", "y"), ("x", "x"))],
                  [True, True, False, False])

    def test_rows_over_is_every_row_each_ahead_of_the_next(self):
        for columns in RIGHT_COLUMNS:
            rows = rows_over(columns)
            every = itertools.product(*[values_of(kind) for _, kind in columns])
            self.same(rows, tuple(every))
            self.same(row_count(columns), len(rows))
            for row, following in itertools.pairwise(rows):
                self.assertTrue(is_ahead(columns, row, following))

    def test_row_index_and_row_at_there_and_back(self):
        for columns in RIGHT_COLUMNS:
            rows = rows_over(columns)
            for index in range(0, len(rows), max(1, len(rows) // 500)):
                self.same(row_index(columns, rows[index]), index)
                self.same(row_at(columns, index), rows[index])
            self.same(row_at(columns, len(rows) - 1), rows[-1])
            self.raises(InvalidPart, row_at, columns, len(rows))
            self.raises(InvalidPart, row_at, columns, -1)

    def test_row_at_refuses_what_is_no_index(self):
        for value in ODD_VALUES + (6, Number(0), (0,), "0", [0]):
            if type(value) != int or not 0 <= value < 6:
                self.raises(InvalidPart, row_at, COLUMNS, value)

    def test_columns_of_ten_thousand_rows_end_soon(self):
        rows = self.quick(rows_over, TEN_THOUSAND)
        self.quick(lambda: [row_index(TEN_THOUSAND, row) for row in rows], seconds=10)
        self.quick(lambda: [row_at(TEN_THOUSAND, k) for k in range(10000)], seconds=10)
        table = (TEN_THOUSAND, rows[:-41:-1])
        self.same(self.quick(plain, table)[1], rows[-40:])
        self.same(self.quick(table_fault, (TEN_THOUSAND, rows[:5999])), 40)


class TableTests(Case):
    def test_right_tables(self):
        for seed in range(60):
            table = some_table(seed)
            self.same(table_fault(table), None)
            self.same(is_table(table), True)
        self.same(table_fault((COLUMNS, ())), None)
        self.same(table_fault((COLUMNS, (("rome", 8),) * 40)), None)

    def both_refuse(self, value, index):
        shown = str(value)[:99]
        self.same(table_fault(value), index, shown)
        self.same(is_table(value), False, shown)
        self.raises(InvalidTable, plain, value, index=index)
        self.raises(InvalidTable, reordered, value, (0, 1), index=index)
        self.raises(InvalidTable, reordered, value, None, index=index)

    def test_what_is_no_tuple_of_columns_and_a_tuple(self):
        for value in ODD_VALUES:
            self.both_refuse(value, 0)
            if value != ():
                self.both_refuse((COLUMNS, value), 0)
        for value in WRONG_COLUMNS:
            self.both_refuse((value, ()), 0)
            self.both_refuse((value, (("rome", 8),) * 41), 0)
        for value in ((COLUMNS,), (COLUMNS, (), ()), [COLUMNS, ()], COLUMNS, Row(TABLE),
                      (COLUMNS, [("rome", 8)]), (COLUMNS, Row()), ((), COLUMNS)):
            self.both_refuse(value, 0)

    def test_index_of_the_first_member_that_is_no_row(self):
        right = ("rome", 8)
        for wrong in WRONG_ROWS:
            for index in (0, 1, 7, 39):
                self.both_refuse((COLUMNS, (right,) * index + (wrong,)), index)
            self.both_refuse((COLUMNS, (right,) * 3 + (wrong, right, wrong) + (right,) * 60), 3)
            self.both_refuse((COLUMNS, (right,) * 39 + (wrong,) + (right,) * 9), 39)
            self.both_refuse((COLUMNS, (right,) * 40 + (wrong,)), 40)
            self.both_refuse((COLUMNS, (right,) * 50 + (wrong,)), 40)

    def test_more_than_forty_rows(self):
        for count in (41, 42, 1000):
            self.both_refuse((COLUMNS, (("rome", 8),) * count), 40)

    def test_plain_sorts_the_rows(self):
        for seed in range(200):
            columns, rows = table = some_table(seed)
            told = plain(table)
            self.same(told[0], columns)
            self.same(sorted(told[1], key=repr), sorted(rows, key=repr))
            for row, following in itertools.pairwise(told[1]):
                self.assertTrue(row == following or is_ahead(columns, row, following))
            self.same(plain(told), told)
            self.same(plain((columns, rows[::-1])), told)

    def test_plain_goes_by_the_index_of_a_word(self):
        columns = (("a", ("word", ("z", "m", "b"))),)
        self.same(plain((columns, (("b",), ("z",), ("m",), ("b",), ("z",))))[1],
                  (("z",), ("z",), ("m",), ("b",), ("b",)))

    def test_reordered_by_all_orders_and_back(self):
        for seed in range(60):
            columns, rows = table = some_table(seed)
            for order in itertools.permutations(range(len(columns))):
                told = reordered(table, order)
                self.same(is_table(told), True)
                self.same(told[0], tuple(columns[k] for k in order))
                self.same(told[1], tuple(tuple(row[k] for k in order) for row in rows))
                back = tuple(order.index(k) for k in range(len(order)))
                self.same(reordered(told, back), table)

    def test_reordered_refuses_what_is_no_order(self):
        for order in ODD_VALUES + (
            (0,), (0, 1, 2), (0, 0), (1, 1), (1, 2), (0, -1), (-2, -1), [0, 1], [1, 0], "01",
            (True, 0), (False, 1), (0, True), ("0", "1"), (0, None), ((0,), (1,)), (0, 1, 1),
            (Number(0), 1), Row((0, 1)), ("city", "age"), (0, 10 ** 89), ([0], 1),
        ):
            self.raises(InvalidPart, reordered, TABLE, order)
        self.raises(InvalidPart, reordered, ((AGE,), ()), (False,))
        self.raises(InvalidPart, reordered, ((AGE,), ()), ())
        self.same(reordered(((AGE,), ()), (0,)), ((AGE,), ()))


if __name__ == "__main__":
    unittest.main()
