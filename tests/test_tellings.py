"""[9], with [2], [3], [4]: tellings of columns."""

import itertools
import random
import unittest

from drawntold import tables, tellings
from drawntold.errors import InvalidColumns, InvalidPart, InvalidTelling
from drawntold.meaning import data
from drawntold.rowforms import kept_rows
from drawntold.tables import reordered
from drawntold.tellings import columns_in, is_telling, retold, swapped, telling_fault
from helper import (
    ALWAYS, AMOUNTS, COLD, CONDITIONS, DRAWN_COLUMNS, KEYS, MARKS, NEVER, ODD_VALUES, ONE, TELLING,
    WORTHS, WRONG_AMOUNTS, WRONG_COLUMNS, WRONG_CONDITIONS, WRONG_KEYS, WRONG_TELLINGS, YEARS, Case,
    Number, Row, Word, bush, chain, kinds, number, refusals, some_cases, some_telling,
)
from helper import FORMULA_COLUMNS as COLUMNS

EXAMPLES = """
>>> columns = (("city", ("word", ("rome", "oslo"))), ("age", ("number", 8, 10)))
>>> telling = ("bar", ("not", ("is", 0, "rome")), ("word", 0), ("mean", ("of", 1)), None, None)
>>> [telling_fault(columns, telling), columns_in(columns, telling), retold(columns, telling, (1, 0))[1:4]]
[None, (0, 1), (('not', ('is', 1, 'rome')), ('word', 1), ('mean', ('of', 0)))]
>>> [telling_fault(columns, swapped(columns, telling, 0, "point")), telling_fault(columns, ("bar",) + telling[1:3] + (("each", ("of", 1)),) + telling[4:])]
[None, (3,)]
"""

ORDERS = tuple(itertools.permutations(range(4)))
WRONG_MARKS = (
    "", "Point", "points", "dot", "each", "bars", "point ", Word("bar"), ("bar",), ["bar"], b"bar",
)
WRONG_MEASURES = (
    ("count", number(1)), ("count", YEARS), ("count", ("add", ONE, number(0))), ("count", ()),
    ("count", ("one", ())), ("count", None), ("count", ["one"]), ("count", Row(ONE)),
    ("count", (Word("one"),)), ("count",), ("count", ONE, ONE), ["count", ONE], ("counts", ONE),
    (Word("count"), ONE), Row(("count", ONE)), ("each",), ("each", YEARS, YEARS), ("", YEARS),
    (None, YEARS), (YEARS, "sum"), (("sum",), YEARS), (["sum"], YEARS), ("sum", "of", 1), ONE,
    YEARS, ("bin", ONE), ("median", YEARS), ("point", YEARS), ("sum", ALWAYS), ("mean", ("word", 0)),
    (Word("sum"), YEARS), Row(("sum", YEARS)), ["sum", YEARS], (1, YEARS), (True, YEARS),
)
WRONG_PANES = tuple(value for value in ODD_VALUES + WRONG_KEYS if value is not None) + tuple(
    amount for amount, _ in AMOUNTS
) + (Row(("word", 0)), (("word", 0),), ALWAYS, ("is", 0, "rome"))


def with_member(telling, part, what):
    return telling[:part] + (what,) + telling[part + 1:]


def right_tellings():
    """A telling with each right member that the samples have, at least once."""
    for mark in MARKS:
        yield with_member(TELLING, 0, mark)
        for word in WORTHS:
            yield with_member(with_member(TELLING, 0, mark), 3, (word, YEARS))
        yield with_member(with_member(TELLING, 0, mark), 3, ("count", ONE))
    for condition, _ in CONDITIONS:
        yield with_member(TELLING, 1, condition)
    for key, _ in KEYS:
        yield with_member(TELLING, 2, key)
    for word in WORTHS + ("each",):
        for amount, _ in AMOUNTS:
            yield with_member(TELLING, 3, (word, amount))
    for hue, side in itertools.product((None, ("word", 0), ("word", 2)), repeat=2):
        yield TELLING[:4] + (hue, side)


def written(columns, value):
    """The indexes of the columns that stand in a telling, found by its text."""
    shown = repr(value)
    return tuple(
        index for index in range(len(columns))
        if any(f"'{word}', {index}" in shown for word in ("of", "word", "is"))
    )


class TellingFaultTests(Case):
    def fault(self, value, place, columns=COLUMNS):
        """The first fault of a value is at this place, None of a telling."""
        shown = repr(value)[:200]
        before = kinds(value)
        self.same(telling_fault(columns, value), place, shown)
        self.same(is_telling(columns, value), place is None, shown)
        self.assertEqual(kinds(value), before)

    def test_examples_of_the_document(self):
        self.examples(EXAMPLES, {**vars(tables), **vars(tellings)})

    def test_tellings_have_no_fault(self):
        for telling in right_tellings():
            self.fault(telling, None)
        chance = random.Random(1)
        for _ in range(500):
            columns = chance.choice(DRAWN_COLUMNS)
            self.fault(some_telling(chance, columns), None, columns)

    def test_what_is_no_tuple_of_six(self):
        for value in ODD_VALUES:
            self.fault(value, ())
        for value in (TELLING[:5], TELLING + (None,), list(TELLING), Row(TELLING), TELLING * 2,
                      TELLING[1:], [None] * 6, "points", (TELLING,), TELLING[:0], TELLING * 1000):
            self.fault(value, ())
        self.fault((None,) * 6, (0,))
        self.fault(([],) * 6, (0,))

    def test_wrong_marks(self):
        for value in ODD_VALUES + WRONG_MARKS:
            self.fault(with_member(TELLING, 0, value), (0,))
            self.fault((value, value, value, value, value, value), (0,))

    def test_wrong_conditions(self):
        for value in ODD_VALUES + WRONG_CONDITIONS + (ONE, YEARS, ("word", 0), TELLING):
            self.fault(with_member(TELLING, 1, value), (1,))

    def test_wrong_keys(self):
        for value in ODD_VALUES + WRONG_KEYS + WRONG_AMOUNTS + (ALWAYS, TELLING, ("sum", YEARS)):
            self.fault(with_member(TELLING, 2, value), (2,))

    def test_wrong_measures(self):
        for value in ODD_VALUES + WRONG_MEASURES:
            self.fault(with_member(TELLING, 3, value), (3,))
        for value in ODD_VALUES + WRONG_AMOUNTS:
            for word in WORTHS + ("each", "count"):
                self.fault(with_member(TELLING, 3, (word, value)), (3,))

    def test_each_is_for_points_alone(self):
        for mark in MARKS:
            telling = with_member(with_member(TELLING, 0, mark), 3, ("each", YEARS))
            self.fault(telling, None if mark == "point" else (3,))
            self.fault(with_member(telling, 5, YEARS), (5,) if mark == "point" else (3,))

    def test_count_is_of_one_alone(self):
        for mark in MARKS:
            telling = with_member(TELLING, 0, mark)
            self.fault(with_member(telling, 3, ("count", ONE)), None)
            for amount, _ in AMOUNTS:
                if amount != ONE:
                    self.fault(with_member(telling, 3, ("count", amount)), (3,))

    def test_wrong_hues_and_sides(self):
        for value in WRONG_PANES:
            self.fault(with_member(TELLING, 4, value), (4,))
            self.fault(with_member(TELLING, 5, value), (5,))

    def test_the_first_fault_counts(self):
        wrong = ("dot", ONE, ALWAYS, YEARS, YEARS, YEARS)
        for count in range(1, 7):
            for parts in itertools.combinations(range(6), count):
                value = tuple(wrong[k] if k in parts else TELLING[k] for k in range(6))
                self.fault(value, (parts[0],))
        for value, place in WRONG_TELLINGS:
            self.fault(value, place)

    def test_at_most_fifteen_tuples_in_each_member(self):
        for count in range(10, 31):
            right = count <= 15
            self.fault(with_member(TELLING, 1, refusals(count)), None if right else (1,))
            self.fault(with_member(TELLING, 2, chain(count)), None if right else (2,))
            for word in WORTHS + ("each",):
                self.fault(with_member(TELLING, 3, (word, chain(count))), None if right else (3,))
        self.fault(("point", refusals(15), bush(15), ("each", chain(15)), ("word", 0), ("word", 2)), None)

    def test_columns_that_are_not_there(self):
        for columns, places in ((COLUMNS[:1], (3,)), (COLUMNS[:2], (3,)), (COLUMNS[:3], (3,)),
                                (COLUMNS[1:2], (2,)), (COLUMNS[::-1], (2,))):
            self.fault(TELLING, places, columns)

    def test_deep_and_long_values_end_soon(self):
        doubled = ONE
        for _ in range(37):
            doubled = ("add", doubled, doubled)
        self.same(self.quick(telling_fault, COLUMNS, with_member(TELLING, 2, doubled)), (2,))
        self.same(self.quick(telling_fault, COLUMNS, with_member(TELLING, 3, ("sum", doubled))), (3,))
        self.same(self.quick(telling_fault, COLUMNS, with_member(TELLING, 1, (TELLING,) * 850)), (1,))

    def test_every_call_refuses_wrong_columns_first(self):
        for value in WRONG_COLUMNS:
            for call in (telling_fault, is_telling, columns_in):
                self.raises(InvalidColumns, call, value, TELLING)
                self.raises(InvalidColumns, call, value, None)
            self.raises(InvalidColumns, retold, value, TELLING, (0, 1, 2, 3))
            self.raises(InvalidColumns, retold, value, None, None)
            self.raises(InvalidColumns, swapped, value, TELLING, 0, "bar")
            self.raises(InvalidColumns, swapped, value, None, None, None)

    def test_every_call_refuses_what_is_no_telling_then(self):
        odd = tuple((value, ()) for value in ODD_VALUES)
        for value, place in WRONG_TELLINGS + odd:
            self.raises(InvalidTelling, columns_in, COLUMNS, value, place=place)
            self.raises(InvalidTelling, retold, COLUMNS, value, (0, 1, 2, 3), place=place)
            self.raises(InvalidTelling, retold, COLUMNS, value, None, place=place)
            self.raises(InvalidTelling, swapped, COLUMNS, value, 0, "bar", place=place)
            self.raises(InvalidTelling, swapped, COLUMNS, value, None, None, place=place)

    def test_arguments_by_name(self):
        self.same(telling_fault(value=TELLING, columns=COLUMNS), None)
        self.same(is_telling(value=TELLING, columns=COLUMNS), True)
        self.same(columns_in(telling=TELLING, columns=COLUMNS), (0, 2, 3))
        self.same(retold(order=(3, 2, 1, 0), telling=TELLING, columns=COLUMNS),
                  ("point", ALWAYS, ("word", 3), ("mean", ("of", 0)), ("word", 1), None))
        self.same(swapped(what="line", part=0, telling=TELLING, columns=COLUMNS),
                  ("line",) + TELLING[1:])


class ColumnsInTests(Case):
    def test_columns_in_each_member(self):
        none = ("bar", ALWAYS, ONE, ("count", ONE), None, None)
        for telling, wanted in (
            (none, ()),
            (with_member(none, 1, ("is", 2, "red")), (2,)),
            (with_member(none, 1, ("not", ("or", ("is", 2, "red"), ("below", COLD, ONE)))), (2, 3)),
            (with_member(none, 2, ("word", 2)), (2,)),
            (with_member(none, 2, ("bin", ("add", COLD, YEARS), 2)), (1, 3)),
            (with_member(none, 3, ("least", ("times", 0, YEARS))), (1,)),
            (with_member(none, 3, ("sum", number(2))), ()),
            (with_member(none, 2, ("bin", ("times", 3, ("add", number(1), ONE)), 2)), ()),
            (with_member(none, 4, ("word", 2)), (2,)),
            (with_member(none, 5, ("word", 0)), (0,)),
            (("line", ("same", COLD, COLD), YEARS, ("most", COLD), ("word", 2), ("word", 0)),
             (0, 1, 2, 3)),
        ):
            self.same(columns_in(COLUMNS, telling), wanted, telling)

    def test_columns_in_many_tellings(self):
        chance = random.Random(2)
        for _ in range(500):
            columns = chance.choice(DRAWN_COLUMNS)
            telling = some_telling(chance, columns)
            self.same(columns_in(columns, telling), written(columns, telling), telling)


class RetoldTests(Case):
    def test_retold_by_every_kind_of_formula(self):
        telling = (
            "point",
            ("and", ("or", ("is", 2, "red"), ("not", ("is", 0, "oslo"))),
             ("below", ("add", YEARS, number(1)), ("times", 3, ("bin", COLD, 2)))),
            ("bin", ("times", 1, ("add", COLD, ONE)), 3), ("each", ("times", 2, YEARS)),
            ("word", 2), ("word", 0),
        )
        self.same(retold(COLUMNS, telling, (2, 0, 3, 1)), (
            "point",
            ("and", ("or", ("is", 0, "red"), ("not", ("is", 1, "oslo"))),
             ("below", ("add", ("of", 3), number(1)), ("times", 3, ("bin", ("of", 2), 2)))),
            ("bin", ("times", 1, ("add", ("of", 2), ONE)), 3), ("each", ("times", 2, ("of", 3))),
            ("word", 0), ("word", 1),
        ))

    def test_words_that_are_heads_elsewhere_stay(self):
        columns = (("of", ("word", ("is", "of", "word"))), ("is", ("word", ("word", "of"))))
        telling = ("bar", ("or", ("is", 0, "of"), ("is", 1, "word")), ("word", 1), ("count", ONE),
                   None, ("word", 0))
        self.same(retold(columns, telling, (1, 0)), (
            "bar", ("or", ("is", 1, "of"), ("is", 0, "word")), ("word", 0), ("count", ONE), None,
            ("word", 1),
        ))
        self.same(columns_in(columns, telling), (0, 1))

    def test_all_orders_there_and_back(self):
        chance = random.Random(3)
        for columns in DRAWN_COLUMNS:
            for order in itertools.permutations(range(len(columns))):
                back = tuple(order.index(k) for k in range(len(order)))
                others = tuple(columns[k] for k in order)
                for _ in range(20):
                    telling = some_telling(chance, columns)
                    told = retold(columns, telling, order)
                    self.same(is_telling(others, told), True, told)
                    self.same(columns_in(others, told),
                              tuple(sorted(back[k] for k in columns_in(columns, telling))))
                    self.same(retold(others, told, back), telling)
        self.same(retold(COLUMNS, TELLING, (0, 1, 2, 3)), TELLING)

    def test_what_is_no_order(self):
        for order in ODD_VALUES + (
            (0, 1, 2), (0, 1, 2, 3, 4), (0, 1, 2, 2), (1, 2, 3, 4), (-1, 0, 1, 2), [0, 1, 2, 3],
            (0, True, 2, 3), (False, 1, 2, 3), ("0", "1", "2", "3"), (Number(0), 1, 2, 3),
            Row((0, 1, 2, 3)), ("city", "age", "hue", "cold"), (0, 1, 2, None), ([0], 1, 2, 3),
        ):
            self.raises(InvalidPart, retold, COLUMNS, TELLING, order)

    def test_retold_says_of_reordered_tables_what_the_telling_says(self):
        for telling, table in some_cases(4, 150):
            wanted = data(telling, table)
            for order in itertools.permutations(range(len(table[0]))):
                told = data(retold(table[0], telling, order), reordered(table, order))
                self.same(told, wanted, (telling, order))

    def test_a_telling_draws_what_it_draws_of_the_kept_rows_alone(self):
        for telling, table in some_cases(5, 300):
            always = swapped(table[0], telling, 1, ALWAYS)
            self.same(data(always, kept_rows(table, telling[1])), data(telling, table), telling)


class SwappedTests(Case):
    def test_each_part(self):
        for part, whats in (
            (0, MARKS), (1, [condition for condition, _ in CONDITIONS]), (2, [key for key, _ in KEYS]),
            (3, [("count", ONE), ("each", COLD)] + [(word, YEARS) for word in WORTHS]),
            (4, (None, ("word", 0), ("word", 2))), (5, (None, ("word", 0), ("word", 2))),
        ):
            for what in whats:
                wanted = tuple(what if k == part else TELLING[k] for k in range(6))
                self.same(swapped(COLUMNS, TELLING, part, what), wanted, what)

    def test_parts_that_are_none(self):
        for part in ODD_VALUES + (6, 7, -6, 10 ** 89, Number(0), "0", (0,), ((0,),), [0], "mark"):
            if type(part) == int and 0 <= part <= 5:
                continue
            for what in ("bar", None, ALWAYS):
                self.raises(InvalidPart, swapped, COLUMNS, TELLING, part, what)

    def test_members_with_which_the_telling_is_none(self):
        for part, whats in (
            (0, WRONG_MARKS), (1, WRONG_CONDITIONS), (2, WRONG_KEYS), (3, WRONG_MEASURES),
            (4, WRONG_PANES), (5, WRONG_PANES),
        ):
            for what in ODD_VALUES + tuple(whats):
                if part < 4 or what is not None:
                    self.raises(InvalidPart, swapped, COLUMNS, TELLING, part, what)

    def test_marks_of_each(self):
        each = swapped(COLUMNS, TELLING, 3, ("each", COLD))
        self.same(swapped(COLUMNS, each, 0, "point"), each)
        for mark in ("bar", "line"):
            self.raises(InvalidPart, swapped, COLUMNS, each, 0, mark)
            other = swapped(COLUMNS, TELLING, 0, mark)
            self.raises(InvalidPart, swapped, COLUMNS, other, 3, ("each", COLD))
        self.same(swapped(COLUMNS, TELLING, 1, NEVER)[1], NEVER)


if __name__ == "__main__":
    unittest.main()
