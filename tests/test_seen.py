"""[16], with [2], [3], [4]: what is hidden, piles, areas, what is warned of."""

import itertools
import unittest
from fractions import Fraction

from drawntold.errors import InvalidTable, InvalidTelling, Refused
from drawntold.meaning import data, groups, kept_in
from drawntold.pictures import picture
from drawntold.seen import areas, hidden, piles, warned
from helper import (
    ALWAYS, COLUMNS, FORMULA_COLUMNS, NEVER, ODD_VALUES, ONE, TELLING, WORTHS, WRONG_COLUMNS,
    WRONG_TELLINGS, Case, number, some_cases,
)

CALLS = (hidden, piles, areas, warned)
SALES = (("shop", ("word", ("south", "north"))), ("kind", ("word", ("tea", "ale"))), ("sold", ("number", -9, 9)))
SHOP, KIND, SOLD = ("word", 0), ("word", 1), ("of", 2)
NOUGHT, QUARTER, WHOLE = (0, 1), (25, 1), (100, 1)
WORDS = ("empty", "piled", "single", "flat", "cut", "dropped", "folded")


def seen(call, rows, mark="point", keep=ALWAYS, across=SHOP, up=("each", SOLD), hue=None, side=None):
    """What a call tells of rows of SALES by a telling of which a few members are told."""
    return call((mark, keep, across, up, hue, side), (SALES, rows))


def lain_over(telling, table):
    """The points that a later one has the very place of, by looking at each two."""
    mark, panels = picture(telling, table)
    if mark != "point":
        return ()
    return tuple(
        (index, k) for index, (_, _, marks) in enumerate(panels) for k, one in enumerate(marks)
        if any(one[:2] == other[:2] for other in marks[k + 1:])
    )


def alarms(telling, table):
    """What is warned of, by the words of the document."""
    told = data(telling, table)
    mark, panels = picture(telling, table)
    ups = [Fraction(*entry[3]) for entry in told]
    return tuple(word for word, holds in zip(WORDS, (
        told == (),
        lain_over(telling, table) != (),
        mark == "line" and 1 in [len(points) for panel in panels for _, points in panel[2]],
        bool(ups) and min(ups) == max(ups),
        mark != "bar" and bool(ups) and (min(ups) > 0 or max(ups) < 0),
        kept_in(telling, table) != table[1],
        telling[3][0] != "each" and max([len(group[3]) for group in groups(telling, table)], default=0) > 1,
    )) if holds)


class HiddenTests(Case):
    def test_points_over_one_another(self):
        rows = (("south", "tea", 3), ("north", "ale", 3), ("south", "ale", 3), ("south", "tea", -1))
        self.same(seen(hidden, rows), ((0, 2),))
        self.same(seen(piles, rows), ((0, (75, 1), WHOLE, (None, None)),))
        # Marks stand as data do: hue by hue, so that ale is drawn ahead of tea.
        self.same(seen(hidden, rows, hue=KIND), ((0, 1),))
        self.same(seen(piles, rows, hue=KIND), ((0, (75, 1), WHOLE, ("ale", "tea")),))
        self.same(seen(hidden, rows, up=("count", ONE)), ())
        self.same(seen(piles, rows, up=("count", ONE)), ())

    def test_three_and_more_of_one_place(self):
        rows = (("south", "tea", 3),) * 3 + (("south", "ale", 3),) * 2 + (("north", "ale", 0),) * 2
        self.same(seen(hidden, rows), ((0, 0),) + tuple((0, k) for k in range(2, 6)))
        self.same(seen(hidden, rows, hue=KIND), ((0, 0), (0, 2), (0, 3), (0, 4), (0, 5)))
        self.same(seen(piles, rows, hue=KIND), (
            (0, QUARTER, NOUGHT, ("ale", "ale")), (0, (75, 1), WHOLE, ("ale", "ale", "tea", "tea", "tea")),
        ))
        self.same(seen(hidden, rows[:1] * 40), tuple((0, k) for k in range(39)))
        self.same(seen(piles, rows[:1] * 40, hue=SHOP), ((0, (50, 1), NOUGHT, ("south",) * 40),))

    def test_panels_are_looked_at_one_by_one(self):
        rows = (("south", "tea", 3), ("south", "ale", 3), ("north", "ale", 3), ("north", "ale", 3),
                ("south", "tea", 3), ("south", "ale", 0))
        self.same(seen(hidden, rows, across=ONE, side=SHOP), ((0, 0), (1, 1), (1, 2)))
        self.same(seen(piles, rows, across=ONE, side=SHOP, hue=KIND), (
            (0, NOUGHT, WHOLE, ("ale", "ale")), (1, NOUGHT, WHOLE, ("ale", "tea", "tea")),
        ))
        # One place in two panels is no pile.
        self.same(seen(hidden, rows[:1] + rows[2:3], across=ONE, side=SHOP), ())
        self.same(seen(piles, rows[:1] + rows[2:3], across=ONE, side=SHOP), ())

    def test_piles_stand_in_the_sequence_of_their_first_points(self):
        rows = tuple((shop, kind, sold) for shop in ("south", "north") for kind in ("tea", "ale") for sold in (9, -9))
        self.same(seen(hidden, rows, hue=KIND), ((0, 0), (0, 1), (0, 2), (0, 3)))
        self.same([pile[1:3] for pile in seen(piles, rows, hue=KIND)], [
            (QUARTER, NOUGHT), (QUARTER, WHOLE), ((75, 1), NOUGHT), ((75, 1), WHOLE),
        ])
        rows = (("south", "ale", 9), ("south", "tea", 9), ("north", "tea", 9), ("north", "tea", 9))
        self.same(seen(piles, rows, hue=KIND), (
            (0, (75, 1), NOUGHT, ("ale", "tea")), (0, QUARTER, NOUGHT, ("tea", "tea")),
        ))

    def test_points_of_folded_measures_with_hues(self):
        rows = (("south", "tea", 3), ("south", "ale", 1), ("south", "ale", 2))
        for word in WORTHS:
            wanted = ((0, 0),) if word == "sum" else ()
            self.same(seen(hidden, rows, up=(word, SOLD), hue=KIND), wanted, word)

    def test_bars_and_lines_hide_nothing(self):
        rows = (("south", "tea", 3), ("south", "ale", 3), ("north", "ale", 0), ("south", "tea", 0))
        for mark in ("bar", "line"):
            for hue, side in itertools.product((None, SHOP, KIND), repeat=2):
                self.same(seen(hidden, rows, mark, up=("mean", SOLD), hue=hue, side=side), ())
                self.same(seen(piles, rows, mark, up=("mean", SOLD), hue=hue, side=side), ())

    def test_nothing_is_drawn(self):
        self.same(seen(hidden, ()), ())
        self.same(seen(piles, (("south", "tea", 3),) * 2, keep=NEVER), ())

    def test_many_pictures(self):
        found = 0
        for telling, table in some_cases(50, 1400):
            wanted = lain_over(telling, table)
            found += wanted != ()
            self.same(hidden(telling, table), wanted)
            mark, panels = picture(telling, table)
            told = piles(telling, table)
            if mark != "point":
                self.same(told, ())
                continue
            for index, (_, _, marks) in enumerate(panels):
                places = list(dict.fromkeys(one[:2] for one in marks))
                self.same(tuple(pile[1:] for pile in told if pile[0] == index), tuple(
                    place + (tuple(one[2] for one in marks if one[:2] == place),) for place in places
                    if sum(one[:2] == place for one in marks) > 1
                ))
            # What is hidden is told by piles: all of a pile but its last point.
            self.assertEqual(len(wanted), sum(len(pile[3]) - 1 for pile in told))
            self.assertEqual([pile[0] for pile in told], sorted(pile[0] for pile in told))
        self.assertGreater(found, 50)


class AreaTests(Case):
    def test_bars_above_and_below_nought_and_of_nought(self):
        rows = (("south", "tea", 6), ("north", "tea", -4))
        self.same(seen(areas, rows, "bar", up=("sum", SOLD)), (((2000, 1), (3000, 1)),))
        rows = (("south", "tea", 6), ("north", "tea", 0))
        self.same(seen(areas, rows, "bar", up=("sum", SOLD)), ((NOUGHT, (5000, 1)),))
        rows = (("south", "tea", 0), ("north", "tea", 0))
        self.same(seen(areas, rows, "bar", up=("most", SOLD)), ((NOUGHT, NOUGHT),))

    def test_bars_in_several_panels(self):
        rows = (("south", "tea", 9), ("north", "tea", 1), ("north", "ale", -1))
        self.same(seen(areas, rows, "bar", across=KIND, up=("sum", SOLD), side=SHOP),
                  (((500, 1), (500, 1)), ((4500, 1),)))
        self.same(seen(areas, rows, "bar", across=KIND, up=("sum", SOLD), hue=SHOP, side=SHOP),
                  (((250, 1), (250, 1)), ((2250, 1),)))
        # What is beyond the ends of the axis counts, too.
        self.same(seen(areas, rows[:1], "bar", across=SOLD, up=("sum", SOLD)), (((10000, 1),),))

    def test_nothing_is_drawn(self):
        self.same(seen(areas, (), "bar", up=("sum", SOLD)), ())
        self.same(seen(areas, (("south", "tea", 3),), "bar", keep=NEVER, up=("sum", SOLD)), ())

    def test_points_and_lines_have_none(self):
        for rows in ((), (("south", "tea", 3),)):
            for mark in ("point", "line"):
                with self.assertRaises(Refused):
                    seen(areas, rows, mark, up=("sum", SOLD))
            with self.assertRaises(Refused):
                seen(areas, rows)

    def test_bars_are_fair(self):
        for telling, table in some_cases(51, 500):
            if telling[3][0] == "each":
                continue
            telling = ("bar",) + telling[1:]
            _, panels = picture(telling, table)
            told = areas(telling, table)
            self.assertEqual([len(panel) for panel in told], [len(panel[2]) for panel in panels])
            widths = {Fraction(*one[2]) - Fraction(*one[0]) for panel in panels for one in panel[2]}
            self.assertLessEqual(len(widths), 1)
            ups = [abs(Fraction(*entry[3])) for entry in data(telling, table)]
            sizes = [Fraction(*area) for panel in told for area in panel]
            for up, size in zip(ups, sizes):
                self.assertEqual(size * max(ups), up * max(sizes))
                self.assertEqual(size == 0, up == 0)
            self.assertEqual(all(area[1] > 0 for panel in told for area in panel), True)


class WarnedTests(Case):
    def test_each_word_alone(self):
        one, other = ("south", "tea", 3), ("north", "tea", -2)
        self.same(seen(warned, ()), ("empty",))
        self.same(seen(warned, (one, other)), ())
        self.same(seen(warned, (one, other, other)), ("piled",))
        self.same(seen(warned, (one, other), "line", up=("sum", SOLD), hue=SHOP), ("single",))
        self.same(seen(warned, (("south", "tea", 0), ("north", "tea", 0))), ("flat",))
        self.same(seen(warned, (one, ("north", "tea", 2))), ("cut",))
        self.same(seen(warned, (one, other, ("north", "ale", 5)), keep=("is", 1, "tea")), ("dropped",))
        self.same(seen(warned, (one, other, other), up=("sum", SOLD)), ("folded",))

    def test_several_words(self):
        rows = (("south", "tea", 3), ("south", "ale", 3))
        self.same(seen(warned, rows), ("piled", "flat", "cut"))
        self.same(seen(warned, rows, keep=("is", 1, "tea")), ("flat", "cut", "dropped"))
        self.same(seen(warned, rows, keep=NEVER), ("empty", "dropped"))
        self.same(seen(warned, rows, "line", up=("sum", SOLD)), ("single", "flat", "cut", "folded"))
        self.same(seen(warned, rows, "bar", up=("sum", SOLD)), ("flat", "folded"))
        self.same(seen(warned, rows + (("north", "ale", 1),), "bar", up=("count", ONE)), ("folded",))
        self.same(seen(warned, rows * 2, up=("most", SOLD), hue=KIND), ("piled", "flat", "cut", "folded"))
        self.same(seen(warned, rows * 2 + (("north", "ale", 0),), "line", keep=("is", 0, "south"),
                       up=("least", SOLD), hue=KIND), ("single", "flat", "cut", "dropped", "folded"))

    def test_cut_at_nought(self):
        for ups, cut in (((1, 2), True), ((0, 2), False), ((-1, -2), True), ((-1, 0), False), ((-1, 1), False)):
            rows = tuple(("south" if k else "north", "tea", up) for k, up in enumerate(ups))
            for mark in ("point", "line"):
                self.same("cut" in seen(warned, rows, mark, up=("sum", SOLD)), cut, ups)
            self.same("cut" in seen(warned, rows, "bar", up=("sum", SOLD)), False)
        self.same(seen(warned, (("south", "tea", 0),)), ("flat",))
        self.same(seen(warned, (("south", "tea", 1),)), ("flat", "cut"))

    def test_single_in_any_panel_and_of_lines_alone(self):
        rows = (("south", "tea", 3), ("north", "tea", -2), ("south", "ale", 0))
        for side, single in ((None, False), (KIND, True), (SHOP, True)):
            told = seen(warned, rows, "line", up=("sum", SOLD), side=side)
            self.same("single" in told, single, side)
            for mark in ("bar", "point"):
                self.same("single" in seen(warned, rows, mark, up=("sum", SOLD), side=side), False)

    def test_like_rows_of_each_are_not_folded(self):
        self.same("folded" in seen(warned, (("south", "tea", 3),) * 9), False)
        self.same("folded" in seen(warned, (("south", "tea", 3), ("south", "tea", 4)), keep=("same", SOLD, number(3)),
                                   up=("sum", SOLD)), False)

    def test_many_pictures(self):
        found = {}
        for telling, table in some_cases(52, 1200):
            told = warned(telling, table)
            self.same(told, alarms(telling, table), (telling, table))
            for word in told:
                found[word] = found.get(word, 0) + 1
        self.assertTrue(all(found[word] > 20 for word in WORDS), found)


class ErrorTests(Case):
    def test_wrong_tables_and_then_wrong_tellings(self):
        right = ("rome", 8)
        for call in CALLS:
            for value in ODD_VALUES + WRONG_COLUMNS[-10:]:
                self.raises(InvalidTable, call, TELLING, value, index=0)
                self.raises(InvalidTable, call, None, (value, ()), index=0)
            self.raises(InvalidTable, call, None, (COLUMNS, (right, right, None)), index=2)
            self.raises(InvalidTable, call, None, (COLUMNS, (right,) * 41), index=40)
            for value, place in WRONG_TELLINGS + tuple((value, ()) for value in ODD_VALUES):
                self.raises(InvalidTelling, call, value, (FORMULA_COLUMNS, ()), place=place)
            self.raises(InvalidTelling, call, TELLING, (COLUMNS, (right,)), place=(3,))
        self.raises(Refused, areas, TELLING, (FORMULA_COLUMNS, ()))

    def test_arguments_by_name(self):
        telling, table = ("bar", ALWAYS, SHOP, ("count", ONE), None, None), (SALES, (("south", "tea", 1),))
        self.same(hidden(table=table, telling=telling), ())
        self.same(piles(table=table, telling=telling), ())
        self.same(areas(table=table, telling=telling), (((10000, 1),),))
        self.same(warned(table=table, telling=telling), ("flat",))


if __name__ == "__main__":
    unittest.main()
