"""[8], with [2], [3], [4]: amounts, conditions and keys."""

import random
import unittest

from drawntold import rowforms, tables
from drawntold.errors import InvalidColumns, InvalidPart, InvalidTable
from drawntold.rowforms import (
    holds, is_amount, is_condition, is_key, kept_rows, keyed, reckoned,
)
from helper import (
    ALWAYS, AMOUNTS, CONDITIONS, KEYS, NEVER, ODD_VALUES, ONE, WRONG_AMOUNTS, WRONG_COLUMNS,
    WRONG_CONDITIONS, WRONG_KEYS, WRONG_ROWS, YEARS, Case, bush, chain, number, refusals,
)
from helper import FORMULA_COLUMNS as COLUMNS
from helper import FORMULA_ROW as ROW

EXAMPLES = """
>>> columns = (("city", ("word", ("rome", "oslo"))), ("age", ("number", 8, 10)))
>>> table = (columns, (("oslo", 9), ("rome", 10), ("oslo", 8)))
>>> tens = ("bin", ("add", ("of", 1), ("number", -20)), 10)
>>> [reckoned(columns, tens, ("rome", 9)), keyed(columns, ("word", 0), ("oslo", 9)), keyed(columns, ("times", -2, ("of", 1)), ("oslo", 9))]
[-20, 'oslo', -18]
>>> old = ("and", ("is", 0, "oslo"), ("not", ("below", ("of", 1), ("number", 9))))
>>> [holds(columns, old, ("oslo", 9)), kept_rows(table, old)[1], is_amount(columns, ("of", 0)), is_condition(columns, ("is", 0, "bonn"))]
[True, (('oslo', 9),), False, False]
"""


class FormulaTests(Case):
    def test_examples_of_the_document(self):
        self.examples(EXAMPLES, {**vars(tables), **vars(rowforms)})

    def test_amounts(self):
        for amount, wanted in AMOUNTS:
            self.same(is_amount(COLUMNS, amount), True, amount)
            self.same(is_key(COLUMNS, amount), True, amount)
            self.same(is_condition(COLUMNS, amount), False, amount)
            self.same(reckoned(COLUMNS, amount, ROW), wanted, amount)

    def test_conditions(self):
        for condition, wanted in CONDITIONS:
            self.same(is_condition(COLUMNS, condition), True, condition)
            self.same(is_amount(COLUMNS, condition), False, condition)
            self.same(is_key(COLUMNS, condition), False, condition)
            self.same(holds(COLUMNS, condition, ROW), wanted, condition)

    def test_keys(self):
        for key, wanted in KEYS:
            self.same(is_key(COLUMNS, key), True, key)
            self.same(keyed(COLUMNS, key, ROW), wanted, key)
        for key in (("word", 0), ("word", 2)):
            self.same(is_amount(COLUMNS, key), False)
            self.same(is_condition(COLUMNS, key), False)
            self.raises(InvalidPart, reckoned, COLUMNS, key, ROW)
            self.raises(InvalidPart, holds, COLUMNS, key, ROW)

    def test_wrong_amounts(self):
        for value in ODD_VALUES + WRONG_AMOUNTS:
            self.same(is_amount(COLUMNS, value), False, str(value)[:99])
            self.same(is_amount(COLUMNS, ("times", 1, value)), False, str(value)[:99])
            self.same(is_key(COLUMNS, value), False, str(value)[:99])
            self.same(is_condition(COLUMNS, ("same", ONE, value)), False, str(value)[:99])
            self.raises(InvalidPart, reckoned, COLUMNS, value, ROW)
            self.raises(InvalidPart, reckoned, COLUMNS, value, None)
            self.raises(InvalidPart, keyed, COLUMNS, value, ROW)

    def test_wrong_conditions(self):
        table = (COLUMNS, (ROW,))
        for value in ODD_VALUES + WRONG_CONDITIONS + (ONE, YEARS, ("word", 0)):
            self.same(is_condition(COLUMNS, value), False, str(value)[:99])
            self.same(is_condition(COLUMNS, ("not", value)), False, str(value)[:99])
            self.same(is_condition(COLUMNS, ("or", ALWAYS, value)), False, str(value)[:99])
            self.raises(InvalidPart, holds, COLUMNS, value, ROW)
            self.raises(InvalidPart, holds, COLUMNS, value, None)
            self.raises(InvalidPart, kept_rows, table, value)
            self.raises(InvalidPart, kept_rows, (COLUMNS, ()), value)

    def test_wrong_keys(self):
        for value in WRONG_KEYS:
            self.same(is_key(COLUMNS, value), False, str(value)[:99])
            self.raises(InvalidPart, keyed, COLUMNS, value, ROW)
            self.raises(InvalidPart, keyed, COLUMNS, value, None)

    def test_wrong_rows(self):
        columns = COLUMNS[:2]
        for row in WRONG_ROWS:
            self.raises(InvalidPart, reckoned, columns, ONE, row)
            self.raises(InvalidPart, holds, columns, ALWAYS, row)
            self.raises(InvalidPart, keyed, columns, ("word", 0), row)

    def test_numbers_at_their_bounds_and_one_beyond(self):
        for n in (-1001, -1000, -21, -20, -1, 0, 1, 20, 21, 100, 101, 1000, 1001):
            self.same(is_amount(COLUMNS, ("number", n)), -1000 <= n <= 1000, n)
            self.same(is_amount(COLUMNS, ("times", n, ONE)), -20 <= n <= 20, n)
            self.same(is_amount(COLUMNS, ("bin", ONE, n)), 1 <= n <= 100, n)

    def test_bins_against_multiples_counted_up(self):
        columns = (("a", ("number", -15, 15)),)
        for width in (1, 2, 3, 7, 10, 15, 16, 99, 100):
            multiples = range(-100 * width, 100 * width + 1, width)
            for n in range(-15, 16):
                wanted = max(multiple for multiple in multiples if multiple <= n)
                self.same(reckoned(columns, ("bin", ("of", 0), width), (n,)), wanted, (n, width))

    def test_at_most_fifteen_tuples(self):
        for count in range(1, 41):
            self.same(is_amount(COLUMNS, chain(count)), count <= 15, count)
            self.same(is_key(COLUMNS, chain(count)), count <= 15, count)
        for count in range(1, 40, 2):
            self.same(is_amount(COLUMNS, bush(count)), count <= 15, count)
            # The same tuple object counts as often as it stands, and `bin` one more.
            self.same(is_amount(COLUMNS, ("bin", bush(count), 1)), count + 1 <= 15, count)
        for count in range(3, 41):
            self.same(is_condition(COLUMNS, refusals(count)), count <= 15, count)
            self.same(is_condition(COLUMNS, ("and", ("is", 0, "rome"), refusals(count))), count <= 13)
            self.same(is_condition(COLUMNS, ("below", chain(count), ONE)), count <= 13, count)
        self.same(reckoned(COLUMNS, chain(15), ROW), 9)
        self.same(reckoned(COLUMNS, bush(15), ROW), 8)
        self.same(holds(COLUMNS, refusals(15), ROW), True)
        self.raises(InvalidPart, reckoned, COLUMNS, chain(16), ROW)
        self.raises(InvalidPart, keyed, COLUMNS, chain(16), ROW)
        self.raises(InvalidPart, holds, COLUMNS, refusals(16), ROW)
        self.raises(InvalidPart, kept_rows, (COLUMNS, ()), refusals(16))

    def test_long_and_deep_formulas_end_soon(self):
        doubled = ONE
        for _ in range(39):
            doubled = ("add", doubled, doubled)
        self.same(self.quick(is_amount, COLUMNS, doubled), False)
        self.same(self.quick(is_condition, COLUMNS, refusals(40)), False)
        self.same(self.quick(is_amount, COLUMNS, ("add",) + (ONE,) * 5999), False)

    def test_every_call_refuses_wrong_columns_first(self):
        for value in WRONG_COLUMNS:
            for call in (is_amount, is_condition, is_key):
                self.raises(InvalidColumns, call, value, ONE)
                self.raises(InvalidColumns, call, value, None)
            for call in (reckoned, holds, keyed):
                self.raises(InvalidColumns, call, value, ONE, ROW)
                self.raises(InvalidColumns, call, value, None, None)

    def test_arguments_by_name(self):
        self.same(is_amount(value=ONE, columns=COLUMNS), True)
        self.same(is_condition(value=ALWAYS, columns=COLUMNS), True)
        self.same(is_key(value=ONE, columns=COLUMNS), True)
        self.same(reckoned(row=ROW, amount=YEARS, columns=COLUMNS), 9)
        self.same(holds(row=ROW, condition=NEVER, columns=COLUMNS), False)
        self.same(keyed(row=ROW, key=("word", 0), columns=COLUMNS), "oslo")
        self.same(kept_rows(condition=ALWAYS, table=(COLUMNS, (ROW,))), (COLUMNS, (ROW,)))


class KeptRowsTests(Case):
    def test_kept_rows_in_their_sequence(self):
        rows = (("oslo", 9), ("rome", 10), ("oslo", 8), ("oslo", 9), ("rome", 8))
        table = (COLUMNS[:2], rows)
        for condition, wanted in (
            (ALWAYS, rows), (NEVER, ()), (("is", 0, "oslo"), (rows[0], rows[2], rows[3])),
            (("not", ("is", 0, "oslo")), (rows[1], rows[4])),
            (("below", YEARS, number(9)), (rows[2], rows[4])),
            (("same", YEARS, number(9)), (rows[0], rows[3])),
            (("or", ("is", 0, "rome"), ("same", YEARS, number(9))),
             (rows[0], rows[1], rows[3], rows[4])),
        ):
            self.same(kept_rows(table, condition), (COLUMNS[:2], wanted), condition)

    def test_kept_rows_are_those_of_which_the_condition_holds(self):
        chance = random.Random(6)
        for _ in range(60):
            rows = tuple(
                (chance.choice(("rome", "oslo")), chance.randint(8, 10),
                 chance.choice(("red", "blue")), chance.randint(-20, 5))
                for _ in range(chance.choice((0, 1, 7, 40)))
            )
            for condition, _ in CONDITIONS:
                wanted = tuple(row for row in rows if holds(COLUMNS, condition, row))
                self.same(kept_rows((COLUMNS, rows), condition), (COLUMNS, wanted))

    def test_errors_of_the_table_come_first(self):
        right = ("rome", 8)
        for condition in (ALWAYS, None, ("is", 0, "bonn")):
            for value in ODD_VALUES:
                self.raises(InvalidTable, kept_rows, value, condition, index=0)
            table = (COLUMNS[:2], (right, right, ("rome", 11)))
            self.raises(InvalidTable, kept_rows, table, condition, index=2)
            self.raises(InvalidTable, kept_rows, (COLUMNS[:2], (right,) * 41), condition, index=40)


if __name__ == "__main__":
    unittest.main()
