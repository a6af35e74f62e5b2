"""[10], with [2], [3], [4]: kept rows, groups and data."""

import random
import unittest
from fractions import Fraction

from drawntold import meaning, rowforms, tables
from drawntold.errors import InvalidTable, InvalidTelling
from drawntold.meaning import data, groups, kept_in
from drawntold.rowforms import holds, keyed, reckoned
from helper import (
    ALWAYS, COLUMNS, NEVER, ODD_VALUES, ONE, TELLING, WRONG_COLUMNS, WRONG_ROWS, WRONG_TELLINGS,
    WORTHS, Case, number, some_cases,
)
from helper import FORMULA_COLUMNS

EXAMPLES = """
>>> columns = (("shop", ("word", ("south", "north"))), ("day", ("number", 1, 9)), ("sold", ("number", 0, 30)))
>>> table = (columns, (("north", 1, 5), ("south", 1, 8), ("north", 4, 6), ("north", 4, 9), ("south", 2, 0)))
>>> always = ("same", ("one",), ("one",))
>>> telling = ("bar", always, ("of", 1), ("sum", ("of", 2)), ("word", 0), None)
>>> data(telling, table)
((None, 'north', 1, (5, 1)), (None, 'north', 4, (15, 1)), (None, 'south', 1, (8, 1)), (None, 'south', 2, (0, 1)))
>>> [groups(telling, table)[1], data(("point", ("below", ("of", 2), ("number", 9)), ("word", 0), ("mean", ("of", 2)), None, None), table)]
[(None, 'north', 4, (6, 9)), ((None, None, 'north', (11, 2)), (None, None, 'south', (4, 1)))]
"""

CALLS = (data, groups, kept_in)
SHOPS = (("shop", ("word", ("south", "north"))), ("hue", ("word", ("red", "blue"))),
         ("side", ("word", ("left", "down"))), ("n", ("number", -9, 9)))
ROWS = (
    ("south", "red", "left", 4), ("north", "red", "left", 3), ("south", "red", "left", -7),
    ("south", "blue", "left", 4), ("north", "red", "down", 0), ("south", "red", "left", 4),
    ("north", "red", "left", 4), ("north", "red", "left", 4),
)
TABLE = (SHOPS, ROWS)
N = ("of", 3)
SHOP, HUE, SIDE = ("word", 0), ("word", 1), ("word", 2)


def told(telling, mark="point", keep=ALWAYS, across=SHOP, up=("sum", N), hue=None, side=None):
    """The data of TABLE by a telling of which a few members are told."""
    return telling((mark, keep, across, up, hue, side), TABLE)


def meant(telling, table):
    """The data, worked out by the words of the document."""
    columns, rows = table
    _, keep, across, (word, amount), hue, side = telling
    found = {}
    for row in rows:
        if holds(columns, keep, row):
            place = tuple(None if key is None else keyed(columns, key, row) for key in (side, hue, across))
            found.setdefault(place, []).append(reckoned(columns, amount, row))
    entries = []
    for place, amounts in found.items():
        if word == "each":
            ups = amounts
        else:
            ups = [{
                "count": len(amounts), "sum": sum(amounts), "least": min(amounts),
                "most": max(amounts), "mean": Fraction(sum(amounts), len(amounts)),
            }[word]]
        entries += [place + (Fraction(up),) for up in ups]
    entries.sort(key=lambda entry: tuple("" if part is None else part for part in entry))
    return tuple(entry[:3] + ((entry[3].numerator, entry[3].denominator),) for entry in entries)


class MeaningTests(Case):
    def test_examples_of_the_document(self):
        self.examples(EXAMPLES, {**vars(tables), **vars(rowforms), **vars(meaning)})

    def test_each_word_across_alone(self):
        for up, north, south in (
            (("count", ONE), ((4, 1),), ((4, 1),)), (("sum", N), ((11, 1),), ((5, 1),)),
            (("least", N), ((0, 1),), ((-7, 1),)), (("most", N), ((4, 1),), ((4, 1),)),
            (("mean", N), ((11, 4),), ((5, 4),)),
            (("each", N), ((0, 1), (3, 1), (4, 1), (4, 1)), ((-7, 1), (4, 1), (4, 1), (4, 1))),
            (("sum", ("times", -1, N)), ((-11, 1),), ((-5, 1),)),
            (("mean", ("add", N, number(1))), ((15, 4),), ((9, 4),)),
            (("sum", ONE), ((4, 1),), ((4, 1),)), (("mean", ONE), ((1, 1),), ((1, 1),)),
        ):
            wanted = [(None, None, "north", part) for part in north]
            wanted += [(None, None, "south", part) for part in south]
            self.same(told(data, up=up), tuple(wanted), up)

    def test_each_word_with_hue_and_side(self):
        places = (
            ("down", "red", "north"), ("left", "blue", "south"), ("left", "red", "north"),
            ("left", "red", "south"),
        )
        for word, ups in (
            ("count", ((1, 1), (1, 1), (3, 1), (3, 1))), ("sum", ((0, 1), (4, 1), (11, 1), (1, 1))),
            ("least", ((0, 1), (4, 1), (3, 1), (-7, 1))), ("most", ((0, 1), (4, 1), (4, 1), (4, 1))),
            ("mean", ((0, 1), (4, 1), (11, 3), (1, 3))),
        ):
            wanted = tuple(place + (up,) for place, up in zip(places, ups))
            amount = ONE if word == "count" else N
            for mark in ("point", "bar", "line"):
                self.same(told(data, mark=mark, up=(word, amount), hue=HUE, side=SIDE), wanted, word)
        self.same(told(data, up=("each", N), hue=HUE, side=SIDE), (
            ("down", "red", "north", (0, 1)), ("left", "blue", "south", (4, 1)),
            ("left", "red", "north", (3, 1)), ("left", "red", "north", (4, 1)),
            ("left", "red", "north", (4, 1)), ("left", "red", "south", (-7, 1)),
            ("left", "red", "south", (4, 1)), ("left", "red", "south", (4, 1)),
        ))

    def test_hue_alone_and_side_alone(self):
        self.same(told(data, hue=HUE), (
            (None, "blue", "south", (4, 1)), (None, "red", "north", (11, 1)),
            (None, "red", "south", (1, 1)),
        ))
        self.same(told(data, side=SIDE), (
            ("down", None, "north", (0, 1)), ("left", None, "north", (11, 1)),
            ("left", None, "south", (5, 1)),
        ))
        self.same(told(data, across=HUE, hue=HUE, side=HUE), (
            ("blue", "blue", "blue", (4, 1)), ("red", "red", "red", (12, 1)),
        ))

    def test_keys_by_amount(self):
        self.same(told(data, across=N, up=("count", ONE)), (
            (None, None, -7, (1, 1)), (None, None, 0, (1, 1)), (None, None, 3, (1, 1)),
            (None, None, 4, (5, 1)),
        ))
        self.same(told(data, across=("bin", N, 4)), (
            (None, None, -8, (-7, 1)), (None, None, 0, (3, 1)), (None, None, 4, (20, 1)),
        ))
        self.same(told(data, across=number(1000), up=("most", N)), ((None, None, 1000, (4, 1)),))
        self.same(told(data, across=ONE, up=("mean", N)), ((None, None, 1, (2, 1)),))

    def test_groups_of_every_word(self):
        for word in WORTHS + ("each",):
            self.same(told(groups, up=(word, N)), (
                (None, None, "north", (0, 3, 4, 4)), (None, None, "south", (-7, 4, 4, 4)),
            ), word)
        self.same(told(groups, up=("count", ONE)), (
            (None, None, "north", (1, 1, 1, 1)), (None, None, "south", (1, 1, 1, 1)),
        ))
        self.same(told(groups, up=("each", ("times", -1, N)), hue=HUE, side=SIDE), (
            ("down", "red", "north", (0,)), ("left", "blue", "south", (-4,)),
            ("left", "red", "north", (-4, -4, -3)), ("left", "red", "south", (-4, -4, 7)),
        ))

    def test_kept_rows_alone(self):
        few = ("below", N, number(4))
        self.same(told(kept_in, keep=few), (ROWS[1], ROWS[2], ROWS[4]))
        self.same(told(data, keep=few), ((None, None, "north", (3, 1)), (None, None, "south", (-7, 1))))
        self.same(told(groups, keep=few),
                  ((None, None, "north", (0, 3)), (None, None, "south", (-7,))))
        self.same(told(kept_in), ROWS)
        self.same(told(kept_in, keep=("is", 1, "blue")), (ROWS[3],))

    def test_no_kept_row_and_no_row(self):
        for call in CALLS:
            for up in (("each", N), ("count", ONE), ("mean", N)):
                self.same(told(call, keep=NEVER, up=up, hue=HUE), ())
                self.same(call(("point", ALWAYS, SHOP, up, None, SIDE), (SHOPS, ())), ())

    def test_words_stand_as_strings_do_and_not_as_columns_have_them(self):
        columns = (("a", ("word", ("b", "a", "ab", "z", "aa"))),)
        rows = tuple((word,) for word in ("z", "aa", "b", "a", "ab"))
        telling = ("bar", ALWAYS, SHOP, ("count", ONE), SHOP, SHOP)
        self.same(data(telling, (columns, rows)),
                  tuple((word, word, word, (1, 1)) for word in ("a", "aa", "ab", "b", "z")))

    def test_forty_like_rows(self):
        table = (SHOPS, ROWS[:1] * 40)
        self.same(data(("point", ALWAYS, SHOP, ("each", N), None, None), table),
                  ((None, None, "south", (4, 1)),) * 40)
        self.same(data(("line", ALWAYS, N, ("count", ONE), None, None), table), ((None, None, 4, (40, 1)),))
        self.same(data(("line", ALWAYS, N, ("sum", N), None, None), table), ((None, None, 4, (160, 1)),))
        self.same(groups(("point", ALWAYS, SHOP, ("each", N), None, None), table),
                  ((None, None, "south", (4,) * 40),))
        self.same(kept_in(TELLING, (FORMULA_COLUMNS, (("rome", 8, "red", 0),) * 40)),
                  (("rome", 8, "red", 0),) * 40)

    def test_data_of_many_tables_are_as_the_document_says(self):
        for telling, table in some_cases(10, 1500):
            self.same(data(telling, table), meant(telling, table), (telling, table))

    def test_groups_and_kept_rows_of_many_tables(self):
        for telling, table in some_cases(11, 500):
            columns, rows = table
            kept = tuple(row for row in rows if holds(columns, telling[1], row))
            self.same(kept_in(telling, table), kept)
            amount = telling[3][1]
            each = meant(("point",) + telling[1:3] + (("each", amount),) + telling[4:], table)
            wanted = {}
            for side, hue, across, (top, _) in each:
                wanted.setdefault((side, hue, across), []).append(top)
            self.same(groups(telling, table),
                      tuple(place + (tuple(amounts),) for place, amounts in wanted.items()))

    def test_the_sequence_of_rows_does_not_count(self):
        chance = random.Random(12)
        for telling, (columns, rows) in some_cases(13, 200):
            others = tuple(chance.sample(rows, len(rows)))
            self.same(data(telling, (columns, others)), data(telling, (columns, rows)))
            self.same(groups(telling, (columns, others)), groups(telling, (columns, rows)))


class ErrorTests(Case):
    def test_wrong_tables(self):
        right = ("rome", 8)
        for call in CALLS:
            for value in ODD_VALUES:
                self.raises(InvalidTable, call, TELLING, value, index=0)
            for value in WRONG_COLUMNS:
                self.raises(InvalidTable, call, TELLING, (value, ()), index=0)
            for wrong in WRONG_ROWS:
                self.raises(InvalidTable, call, TELLING, (COLUMNS, (right, right, wrong)), index=2)
            self.raises(InvalidTable, call, TELLING, (COLUMNS, (right,) * 41), index=40)

    def test_errors_of_the_table_come_ahead_of_those_of_the_telling(self):
        right = ("rome", 8)
        for call in CALLS:
            for telling in ODD_VALUES + tuple(value for value, _ in WRONG_TELLINGS):
                self.raises(InvalidTable, call, telling, None, index=0)
                self.raises(InvalidTable, call, telling, (COLUMNS, (right, None)), index=1)
                self.raises(InvalidTable, call, telling, (COLUMNS, (right,) * 41), index=40)

    def test_wrong_tellings(self):
        for call in CALLS:
            for rows in ((), (("rome", 8, "red", 0),)):
                for telling in ODD_VALUES:
                    self.raises(InvalidTelling, call, telling, (FORMULA_COLUMNS, rows), place=())
                for telling, place in WRONG_TELLINGS:
                    self.raises(InvalidTelling, call, telling, (FORMULA_COLUMNS, rows), place=place)

    def test_tellings_of_other_columns(self):
        for call in CALLS:
            self.raises(InvalidTelling, call, TELLING, (COLUMNS, ()), place=(3,))
            self.raises(InvalidTelling, call, TELLING, (COLUMNS[::-1], ()), place=(2,))

    def test_arguments_by_name(self):
        telling = ("bar", ALWAYS, SHOP, ("count", ONE), None, None)
        table = (SHOPS, ROWS[:1])
        self.same(data(table=table, telling=telling), ((None, None, "south", (1, 1)),))
        self.same(groups(table=table, telling=telling), ((None, None, "south", (1,)),))
        self.same(kept_in(table=table, telling=telling), ROWS[:1])


if __name__ == "__main__":
    unittest.main()
