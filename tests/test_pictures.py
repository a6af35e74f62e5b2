"""[11], with [2], [3], [4]: pictures, places on axes, data told back."""

import random
import unittest
from fractions import Fraction

from drawntold import meaning, pictures
from drawntold.errors import InvalidTable, InvalidTelling
from drawntold.meaning import data
from drawntold.pictures import band_on, hues_of, picture, place_on, told_data
from drawntold.ticks import span_of, ticks
from helper import (
    ALWAYS, COLUMNS, DRAWN_COLUMNS, FORMULA_COLUMNS, MARKS, NEVER, ODD_VALUES, ONE, TELLING,
    WRONG_TELLINGS, WORTHS, Case, number, some_cases, some_rows,
)

EXAMPLES = """
>>> picture(telling, table)[1][0][1]
(('number', (1, 1), (4, 1), ((1, 1), (2, 1), (3, 1), (4, 1))), ('number', (0, 1), (15, 1), ((0, 1), (5, 1), (10, 1), (15, 1))))
>>> [picture(telling, table)[0], picture(telling, table)[1][0][2][0]]
['bar', ((-50, 3), (0, 1), (0, 1), (100, 3), 'north')]
>>> picture(("point", always, ("word", 0), ("most", ("of", 2)), None, None), table)[1][0][2]
(((25, 1), (100, 1), None), ((75, 1), (0, 1), None))
>>> [told_data(picture(telling, table)) == data(telling, table), place_on(("word", ("a", "d")), "d"), band_on(("word", ("a", "d")), "d")]
[True, (75, 1), ((50, 1), (100, 1))]
"""
# What the examples of the point ahead of it assign.
AHEAD = """
>>> columns = (("shop", ("word", ("south", "north"))), ("day", ("number", 1, 9)), ("sold", ("number", 0, 30)))
>>> table = (columns, (("north", 1, 5), ("south", 1, 8), ("north", 4, 6), ("north", 4, 9), ("south", 2, 0)))
>>> always = ("same", ("one",), ("one",))
>>> telling = ("bar", always, ("of", 1), ("sum", ("of", 2)), ("word", 0), None)
"""

SALES = (("shop", ("word", ("south", "north", "east"))), ("year", ("number", 1, 9)),
         ("kind", ("word", ("tea", "ale"))), ("sold", ("number", -15, 15)))
SHOP, YEAR, KIND, SOLD = ("word", 0), ("of", 1), ("word", 2), ("of", 3)
WHOLE, NOUGHT, HALF = (100, 1), (0, 1), (50, 1)


def pair(value):
    return (value.numerator, value.denominator)


def drawn_of(entries, mark):
    """The panels of a mark for entries (side, hue, across, up), by the words of the document."""
    if not entries:
        return ()
    acrosses = sorted({entry[2] for entry in entries})
    hues = sorted({entry[1] for entry in entries})
    ups = tuple(entry[3] for entry in entries)
    words = isinstance(acrosses[0], str)
    across_axis = ("word", tuple(acrosses))
    if not words:
        low, high = span_of(tuple((across, 1) for across in acrosses), False)
        across_axis = ("number", low, high, ticks(low, high, 5)[1])
    low_up, high_up = span_of(ups, mark == "bar")
    up_axis = ("number", low_up, high_up, ticks(low_up, high_up, 5)[1])

    def x_of(across):
        if words:
            return Fraction(100 * (2 * acrosses.index(across) + 1), 2 * len(acrosses))
        return (across - Fraction(*low)) / (Fraction(*high) - Fraction(*low)) * 100

    def y_of(up):
        return (Fraction(*up) - Fraction(*low_up)) / (Fraction(*high_up) - Fraction(*low_up)) * 100

    def bar(hue, across, up):
        band = Fraction(100, len(acrosses))
        if not words:
            band = min([abs(x_of(one) - x_of(other)) for one in acrosses for other in acrosses
                        if one != other], default=Fraction(100))
        left = x_of(across) - band / 2 + band * hues.index(hue) / len(hues)
        low_end, high_end = sorted((y_of(NOUGHT), y_of(up)))
        ends = (left, low_end, left + band / len(hues), high_end)
        return tuple(pair(end) for end in ends) + (hue,)

    panels = []
    for side in sorted({entry[0] for entry in entries}):
        here = [entry[1:] for entry in entries if entry[0] == side]
        if mark == "bar":
            marks = [bar(*entry) for entry in here]
        elif mark == "point":
            marks = [(pair(x_of(across)), pair(y_of(up)), hue) for hue, across, up in here]
        else:
            marks = [
                (hue, tuple((pair(x_of(across)), pair(y_of(up)))
                            for other, across, up in here if other == hue))
                for hue in sorted({entry[0] for entry in here})
            ]
        panels.append((side, (across_axis, up_axis), tuple(marks)))
    return tuple(panels)


def drawn(rows, mark="bar", across=SHOP, up=("sum", SOLD), hue=None, side=None, keep=ALWAYS):
    """The picture of rows of SALES by a telling of which a few members are told."""
    return picture((mark, keep, across, up, hue, side), (SALES, rows))


class PictureTests(Case):
    def test_examples_of_the_document(self):
        names = {**vars(meaning), **vars(pictures)}
        self.examples(AHEAD, names)
        self.examples(EXAMPLES, names)

    def test_points_across_words(self):
        rows = (("south", 1, "tea", 5), ("north", 1, "tea", -5), ("east", 2, "ale", 0),
                ("south", 3, "ale", 5))
        up_axis = ("number", (-5, 1), (5, 1), ((-4, 1), (-2, 1), (0, 1), (2, 1), (4, 1)))
        axes = (("word", ("east", "north", "south")), up_axis)
        self.same(drawn(rows, "point", up=("each", SOLD)), ("point", ((None, axes, (
            ((50, 3), HALF, None), (HALF, NOUGHT, None), ((250, 3), WHOLE, None),
            ((250, 3), WHOLE, None),
        )),)))
        self.same(drawn(rows, "point", up=("mean", SOLD), hue=KIND), ("point", ((None, axes, (
            ((50, 3), HALF, "ale"), ((250, 3), WHOLE, "ale"), (HALF, NOUGHT, "tea"),
            ((250, 3), WHOLE, "tea"),
        )),)))

    def test_lines_across_numbers(self):
        rows = (("south", 5, "tea", 3), ("south", 1, "tea", 1), ("north", 2, "ale", 2),
                ("south", 2, "ale", 2), ("north", 1, "tea", 2))
        axes = (("number", (1, 1), (5, 1), tuple((k, 1) for k in range(1, 6))),
                ("number", (3, 1), (4, 1), ((3, 1), (16, 5), (17, 5), (18, 5), (19, 5), (4, 1))))
        self.same(drawn(rows, "line", across=YEAR), ("line", ((None, axes, (
            (None, ((NOUGHT, NOUGHT), ((25, 1), WHOLE), (WHOLE, NOUGHT))),
        )),)))
        axes = (axes[0], ("number", (1, 1), (3, 1), ((1, 1), (3, 2), (2, 1), (5, 2), (3, 1))))
        self.same(drawn(rows, "line", across=YEAR, hue=SHOP), ("line", ((None, axes, (
            ("north", ((NOUGHT, HALF), ((25, 1), HALF))),
            ("south", ((NOUGHT, NOUGHT), ((25, 1), HALF), (WHOLE, WHOLE))),
        )),)))

    def test_lines_across_words(self):
        rows = (("south", 1, "tea", 5), ("north", 1, "tea", -5), ("east", 2, "ale", 0))
        self.same(drawn(rows, "line")[1][0][2],
                  ((None, (((50, 3), HALF), (HALF, NOUGHT), ((250, 3), WHOLE))),))

    def test_bars_across_words(self):
        rows = (("south", 1, "tea", 6), ("north", 1, "tea", -4), ("east", 2, "tea", 0))
        up_axis = ("number", (-4, 1), (6, 1), ((-4, 1), (-2, 1), (0, 1), (2, 1), (4, 1), (6, 1)))
        self.same(drawn(rows), ("bar", ((None, (("word", ("east", "north", "south")), up_axis), (
            (NOUGHT, (40, 1), (100, 3), (40, 1), None), ((100, 3), NOUGHT, (200, 3), (40, 1), None),
            ((200, 3), (40, 1), WHOLE, WHOLE, None),
        )),)))

    def test_hues_stand_side_by_side_also_where_some_have_no_bar(self):
        rows = (("south", 1, "tea", 6), ("north", 1, "ale", 3), ("north", 2, "tea", 6))
        self.same(drawn(rows, hue=KIND)[1][0][2], (
            (NOUGHT, NOUGHT, (25, 1), HALF, "ale"), ((25, 1), NOUGHT, HALF, WHOLE, "tea"),
            ((75, 1), NOUGHT, WHOLE, WHOLE, "tea"),
        ))
        # The hue that a panel has not keeps its part there: all hues of the data count.
        self.same(drawn(rows[1:], hue=KIND, side=KIND)[1][1][2],
                  ((HALF, NOUGHT, WHOLE, WHOLE, "tea"),))
        self.same(drawn(rows, across=ONE, hue=SHOP)[1][0][2], (
            ((-50, 1), NOUGHT, NOUGHT, WHOLE, "north"), (NOUGHT, NOUGHT, HALF, (200, 3), "south"),
        ))

    def test_bars_across_numbers_go_by_the_gap(self):
        rows = (("south", 1, "tea", 4), ("south", 3, "tea", -4), ("south", 9, "tea", 4),
                ("north", 9, "ale", 4))
        axis = ("number", (1, 1), (9, 1), ((2, 1), (4, 1), (6, 1), (8, 1)))
        told = drawn(rows, across=YEAR, up=("most", SOLD))
        self.same(told[1][0][1][0], axis)
        self.same(told[1][0][2], (
            ((-25, 2), HALF, (25, 2), WHOLE, None), ((25, 2), NOUGHT, (75, 2), HALF, None),
            ((175, 2), HALF, (225, 2), WHOLE, None),
        ))
        # The gap is that of all panels, as the hues are.
        self.same(drawn(rows, across=YEAR, up=("most", SOLD), side=SHOP)[1][0],
                  ("north", told[1][0][1], (((175, 2), HALF, (225, 2), WHOLE, None),)))
        self.same(drawn(rows, across=YEAR, up=("most", SOLD), hue=SHOP)[1][0][2], (
            ((175, 2), HALF, WHOLE, WHOLE, "north"), (NOUGHT, HALF, (25, 2), WHOLE, "south"),
            ((25, 1), NOUGHT, (75, 2), HALF, "south"), (WHOLE, HALF, (225, 2), WHOLE, "south"),
        ))

    def test_one_across_alone_has_a_gap_of_100(self):
        told = drawn((("south", 7, "tea", 4),) * 3, across=YEAR)
        self.same(told, ("bar", ((None, (
            ("number", (7, 1), (8, 1), ((7, 1), (36, 5), (37, 5), (38, 5), (39, 5), (8, 1))),
            ("number", NOUGHT, (12, 1), (NOUGHT, (5, 1), (10, 1))),
        ), (((-50, 1), NOUGHT, HALF, WHOLE, None),)),)))

    def test_bars_of_nought_alone(self):
        rows = (("south", 1, "tea", 0), ("north", 1, "tea", 0))
        told = drawn(rows)
        self.same(told[1][0][1][1][:3], ("number", NOUGHT, (1, 1)))
        self.same(told[1][0][2], ((NOUGHT, NOUGHT, HALF, NOUGHT, None), (HALF, NOUGHT, WHOLE, NOUGHT, None)))
        self.same(told_data(told), data(("bar", ALWAYS, SHOP, ("sum", SOLD), None, None), (SALES, rows)))

    def test_nought_is_on_the_axis_for_bars_alone(self):
        for sold, low, high in ((9, NOUGHT, (9, 1)), (-9, (-9, 1), NOUGHT)):
            rows = (("south", 1, "tea", sold), ("north", 1, "tea", sold))
            self.same(drawn(rows)[1][0][1][1][1:3], (low, high))
            for mark in ("point", "line"):
                self.same(drawn(rows, mark)[1][0][1][1][1:3], ((sold, 1), (sold + 1, 1)))
            # Not on the axis across.
            self.same(drawn(rows, across=number(sold))[1][0][1][0][1:3], ((sold, 1), (sold + 1, 1)))

    def test_several_panels_have_the_same_axes(self):
        rows = (("south", 1, "tea", 4), ("north", 9, "ale", -3), ("east", 4, "tea", 12))
        for mark in MARKS:
            whole = drawn(rows, mark, across=YEAR, side=KIND)
            self.assertEqual([panel[0] for panel in whole[1]], ["ale", "tea"])
            self.same(whole[1][0][1], whole[1][1][1])
            self.same(whole[1][0][1], drawn(rows, mark, across=YEAR)[1][0][1])
        self.same(drawn(rows, "point", across=SHOP, side=SHOP), ("point", tuple(
            (shop, (("word", ("east", "north", "south")),
                    ("number", (-3, 1), (12, 1), (NOUGHT, (5, 1), (10, 1)))),
             ((x, y, None),))
            for shop, x, y in (("east", (50, 3), WHOLE), ("north", HALF, NOUGHT),
                               ("south", (250, 3), (140, 3)))
        )))

    def test_no_data_no_panels(self):
        for mark in MARKS:
            for across in (SHOP, YEAR):
                told = drawn((), mark, across)
                self.same(told, (mark, ()))
                self.same(told_data(told), ())
                self.same(drawn((("south", 1, "tea", 4),), mark, across, keep=NEVER, side=KIND), (mark, ()))

    def test_words_stand_as_strings_do(self):
        rows = (("south", 1, "tea", 4), ("north", 9, "ale", -3), ("east", 4, "tea", 12))
        for mark in MARKS:
            self.same(drawn(rows, mark)[1][0][1][0], ("word", ("east", "north", "south")))
            self.same(drawn(rows[:2], mark)[1][0][1][0], ("word", ("north", "south")))

    def test_pictures_of_many_tables_are_as_the_document_says(self):
        for telling, table in some_cases(30, 1200):
            wanted = (telling[0], drawn_of(data(telling, table), telling[0]))
            self.same(picture(telling, table), wanted, (telling, table))


class PlaceTests(Case):
    AXIS = ("number", (-1, 2), (3, 2), ((0, 1), (1, 1)))

    def test_places_of_integers_and_fractions(self):
        for value, place in (
            (0, (25, 1)), (1, (75, 1)), (2, (125, 1)), (-1, (-25, 1)), ((1, 2), HALF), ((0, 1), (25, 1)),
            ((-1, 2), NOUGHT), ((3, 2), WHOLE), ((1, 3), (125, 3)), (10 ** 20, (50 * 10 ** 20 + 25, 1)),
        ):
            self.same(place_on(self.AXIS, value), place, value)

    def test_places_and_bands_of_words(self):
        words = ("b", "c", "a")
        for k, word in enumerate(words):
            left, right = band_on(("word", words), word)
            self.same((left, right), (pair(Fraction(100 * k, 3)), pair(Fraction(100 * (k + 1), 3))))
            self.same(place_on(("word", words), word), pair(Fraction(100 * (2 * k + 1), 6)))
        self.same(band_on(("word", ("one",)), "one"), (NOUGHT, WHOLE))
        self.same(place_on(("word", ("one",)), "one"), HALF)
        self.same(band_on(("word", tuple("abcdef")), "d"), (HALF, (200, 3)))

    def test_places_on_the_axes_of_pictures(self):
        for telling, table in some_cases(31, 200):
            _, panels = picture(telling, table)
            if telling[0] != "point" or not panels:
                continue
            spots = [(x, y) for _, _, marks in panels for x, y, _ in marks]
            axes = panels[0][1]
            self.assertEqual(spots, [
                (place_on(axes[0], across), place_on(axes[1], up)) for _, _, across, up in data(telling, table)
            ])

    def test_arguments_by_name(self):
        self.same(place_on(value=1, axis=self.AXIS), (75, 1))
        self.same(band_on(word="b", axis=("word", ("a", "b"))), (HALF, WHOLE))
        told = picture(table=(SALES, (("south", 1, "tea", 4),)),
                       telling=("line", ALWAYS, SHOP, ("sum", SOLD), None, None))
        self.same(told_data(picture=told), ((None, None, "south", (4, 1)),))


class ToldDataTests(Case):
    def test_fact_p_data_are_told_back(self):
        for telling, table in some_cases(32, 2000):
            self.same(told_data(picture(telling, table)), data(telling, table), (telling, table))

    def test_fact_p_pictures_are_one_exactly_if_the_data_are(self):
        chance = random.Random(33)
        columns = DRAWN_COLUMNS[1]
        by_data = {}
        by_picture = {}
        for _ in range(1500):
            mark = chance.choice(MARKS)
            word = chance.choice(WORTHS + ("count",))
            telling = (mark, ALWAYS, chance.choice((SHOP, YEAR)), (word, ONE if word == "count" else YEAR),
                       chance.choice((None, SHOP)), chance.choice((None, SHOP)))
            table = (columns, some_rows(chance, columns, chance.randint(0, 3)))
            told, shown = (mark, data(telling, table)), picture(telling, table)
            self.assertEqual(by_data.setdefault(told, shown), shown)
            self.assertEqual(by_picture.setdefault(shown, told), told)
        self.assertGreater(len(by_data), 200)

    def test_bars_below_and_above_nought_with_hues_and_panels(self):
        rows = (("south", 1, "tea", 4), ("north", 9, "ale", -3), ("east", 4, "tea", 12),
                ("east", 4, "ale", -15), ("north", 2, "tea", 0))
        for across in (SHOP, YEAR, ("times", -20, YEAR), SOLD):
            for hue, side in ((None, None), (KIND, None), (SHOP, KIND), (KIND, SHOP), (KIND, KIND)):
                for word in WORTHS:
                    telling = ("bar", ALWAYS, across, (word, SOLD), hue, side)
                    table = (SALES, rows)
                    self.same(told_data(picture(telling, table)), data(telling, table), telling)

    def test_hues_of_all_panels(self):
        rows = (("south", 1, "tea", 4), ("north", 9, "ale", -3), ("east", 4, "tea", 12))
        for mark in MARKS:
            self.same(hues_of(drawn(rows, mark)), [None])
            self.same(hues_of(drawn(rows, mark, across=YEAR, hue=SHOP, side=KIND)),
                      ["east", "north", "south"])
            self.same(hues_of((mark, ())), [])

    def test_forty_rows_end_soon(self):
        chance = random.Random(34)
        for mark in MARKS:
            telling = (mark, ALWAYS, SOLD, ("mean", SOLD), SHOP, KIND)
            table = (SALES, some_rows(chance, SALES, 40))
            told = self.quick(picture, telling, table, seconds=2)
            self.same(self.quick(told_data, told, seconds=2), data(telling, table))


class ErrorTests(Case):
    def test_errors_of_the_table_come_ahead_of_those_of_the_telling(self):
        right = ("rome", 8)
        for telling in ODD_VALUES + (TELLING,) + tuple(value for value, _ in WRONG_TELLINGS):
            for value in ODD_VALUES:
                self.raises(InvalidTable, picture, telling, value, index=0)
            self.raises(InvalidTable, picture, telling, (COLUMNS, (right, None)), index=1)
            self.raises(InvalidTable, picture, telling, (COLUMNS, (right,) * 41), index=40)

    def test_wrong_tellings(self):
        for rows in ((), (("rome", 8, "red", 0),)):
            for telling in ODD_VALUES:
                self.raises(InvalidTelling, picture, telling, (FORMULA_COLUMNS, rows), place=())
            for telling, place in WRONG_TELLINGS:
                self.raises(InvalidTelling, picture, telling, (FORMULA_COLUMNS, rows), place=place)


if __name__ == "__main__":
    unittest.main()
