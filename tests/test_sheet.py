"""[17], with [2], [3], [4]: sheets of signs, legends, rulers, plates."""

import random
import unittest
from fractions import Fraction

from drawntold import sheet as sheets
from drawntold.errors import InvalidCount, InvalidPart
from drawntold.pictures import picture
from drawntold.sheet import legend, plate, rulers, sheet
from helper import ALWAYS, ODD_VALUES, ONE, Case, Number, some_cases

EXAMPLES = """
>>> told = ("point", ((None, (("word", ("a", "b")), ("number", (0, 1), (4, 1), ((0, 1), (2, 1), (4, 1)))), (((25, 1), (0, 1), "red"), ((25, 1), (100, 1), "blue"), ((75, 1), (50, 1), "blue"))),))
>>> [sheet(told, 0, 4, 3), legend(told), rulers(told, 0, 4, 3), plate(told, 0, 4, 3)[0]]
[('.a..', '...a', '.b..'), (('a', 'blue'), ('b', 'red')), ('-|-|', '|||'), '|.a..']
>>> line = ("line", ((None, told[1][0][1], ((None, (((0, 1), (0, 1)), ((100, 1), (100, 1)))),)),))
>>> [sheet(line, 0, 3, 3), sheet(line, 0, 2, 4)]
[('..o', '.o.', 'o..'), ('.o', '.o', 'o.', 'o.')]
"""

AXES = (("word", ("a", "b")), ("number", (0, 1), (4, 1), ((0, 1), (2, 1), (4, 1))))
SIZES = ((1, 1), (1, 3), (4, 1), (2, 2), (3, 5), (7, 4), (10, 10))


def pair(place):
    value = Fraction(place)
    return (value.numerator, value.denominator)


def panel_of(mark, marks, axes=AXES):
    """A picture of one panel with these marks."""
    return (mark, ((None, axes, tuple(marks)),))


def points(*places, hue=None):
    return panel_of("point", [(pair(x), pair(y), hue) for x, y in places])


def line(*places, hue=None):
    return panel_of("line", [(hue, tuple((pair(x), pair(y)) for x, y in places))])


def bars(*told, hue=None):
    return panel_of("bar", [tuple(pair(end) for end in ends) + (hue,) for ends in told])


def within(value, index, count):
    """Whether a place is in the column or row with an index, by the words of the document."""
    low, high = Fraction(100 * index, count), Fraction(100 * (index + 1), count)
    return low <= value < high or (index == count - 1 and value == 100)


def reaches(start, end, column, row, wide, tall):
    """Whether some point of a stretch is in a cell: those parts of the way that are within bounds."""
    first, last = (Fraction(0), True), (Fraction(1), True)
    for k, index, count in ((0, column, wide), (1, row, tall)):
        begin, step = start[k], end[k] - start[k]
        low, high = Fraction(100 * index, count), Fraction(100 * (index + 1), count)
        if step == 0:
            if not within(begin, index, count):
                return False
            continue
        ends = [((low - begin) / step, True), ((high - begin) / step, index == count - 1)]
        if step < 0:
            ends.reverse()
        # Of two bounds at one part of the way the one that does not have it counts.
        first = max(first, ends[0], key=lambda bound: (bound[0], not bound[1]))
        last = min(last, ends[1], key=lambda bound: (bound[0], bound[1]))
    return first[0] < last[0] or (first[0] == last[0] and first[1] and last[1])


def shows(mark, one, column, row, wide, tall):
    """Whether a mark is shown in a cell, by the words of the document."""
    if mark == "point":
        return within(Fraction(*one[0]), column, wide) and within(Fraction(*one[1]), row, tall)
    if mark == "bar":
        left, low, right, high = [Fraction(*end) for end in one[:4]]
        shared = [
            min(far, Fraction(100 * (index + 1), count)) - max(near, Fraction(100 * index, count))
            for near, far, index, count in ((left, right, column, wide), (low, high, row, tall))
        ]
        return min(shared) > 0
    places = [(Fraction(*x), Fraction(*y)) for x, y in one[1]]
    ways = list(zip(places, places[1:])) or [(places[0], places[0])]
    return any(reaches(start, end, column, row, wide, tall) for start, end in ways)


def drawn(told, panel, wide, tall):
    """The sheet, cell by cell."""
    mark, panels = told
    at = 0 if mark == "line" else -1
    hues = sorted({one[at] for _, _, marks in panels for one in marks} - {None})
    signs = {None: "o", **dict(zip(hues, "abcdefghijklmnopqrstuvwxyz"))}
    rows = []
    for row in range(tall - 1, -1, -1):
        text = ""
        for column in range(wide):
            found = {one[at] for one in panels[panel][2] if shows(mark, one, column, row, wide, tall)}
            text += "." if not found else "*" if len(found) > 1 else signs[found.pop()]
        rows.append(text)
    return tuple(rows)


def some_pictures(seed, count):
    """So many pictures with a panel at least, also with marks left out or in another sequence."""
    chance = random.Random(seed)
    for telling, table in some_cases(seed, count):
        mark, panels = picture(telling, table)
        if chance.random() < 0.3:
            panels = tuple(
                (side, axes, tuple(chance.sample(marks, chance.randint(0, len(marks)))))
                for side, axes, marks in panels
            )
        if panels:
            yield mark, panels


class SheetTests(Case):
    def test_examples_of_the_document(self):
        self.examples(EXAMPLES, dict(vars(sheets)))

    def test_points_at_the_edges_of_cells(self):
        self.same(sheet(points((0, 0)), 0, 4, 2), ("....", "o..."))
        self.same(sheet(points((25, 50)), 0, 4, 2), (".o..", "...."))
        self.same(sheet(points((Fraction(2499, 100), Fraction(4999, 100))), 0, 4, 2), ("....", "o..."))
        self.same(sheet(points((100, 100)), 0, 4, 2), ("...o", "...."))
        self.same(sheet(points((75, 0), (50, 100)), 0, 4, 2), ("..o.", "...o"))
        self.same(sheet(points((Fraction(100, 3), Fraction(200, 3))), 0, 3, 3), (".o.", "...", "..."))

    def test_one_column_one_row_and_one_cell(self):
        told = points((0, 0), (100, 100), (50, 50))
        self.same(sheet(told, 0, 1, 1), ("o",))
        self.same(sheet(told, 0, 1, 3), ("o", "o", "o"))
        self.same(sheet(told, 0, 5, 1), ("o.o.o",))
        for empty in (points(), line((0, 0))[:1] + (((None, AXES, ()),),), bars()):
            self.same(sheet(empty, 0, 1, 1), (".",))
            self.same(sheet(empty, 0, 3, 2), ("...", "..."))

    def test_hues_and_cells_with_several_of_them(self):
        told = panel_of("point", [
            ((0, 1), (0, 1), "red"), ((10, 1), (10, 1), "blue"), ((90, 1), (0, 1), "red"),
            ((95, 1), (5, 1), "red"), ((0, 1), (90, 1), "green"),
        ])
        self.same(sheet(told, 0, 2, 2), ("b.", "*c"))
        self.same(legend(told), (("a", "blue"), ("b", "green"), ("c", "red")))
        self.same(sheet(told, 0, 20, 20)[0], "." * 20)
        self.same(sheet(told, 0, 20, 20)[17:], (
            "..a" + "." * 17, "." * 19 + "c", "c" + "." * 17 + "c.",
        ))
        self.same(sheet(told, 0, 1, 1), ("*",))

    def test_hues_of_all_panels_have_letters(self):
        told = ("point", (("x", AXES, (((0, 1), (0, 1), "red"),)), ("y", AXES, (((0, 1), (0, 1), "blue"),)),
                          ("z", AXES, ())))
        self.same([sheet(told, k, 2, 1) for k in range(3)], [("b.",), ("a.",), ("..",)])
        self.same(legend(told), (("a", "blue"), ("b", "red")))

    def test_bars_cell_by_cell(self):
        self.same(sheet(bars((0, 0, 50, 50)), 0, 4, 4), ("....", "....", "oo..", "oo.."))
        self.same(sheet(bars((24, 0, 51, 51)), 0, 4, 4), ("....", "ooo.", "ooo.", "ooo."))
        self.same(sheet(bars((25, 25, 75, 50)), 0, 4, 4), ("....", "....", ".oo.", "...."))
        self.same(sheet(bars((0, 0, 100, 100)), 0, 3, 2), ("ooo", "ooo"))
        # An edge is no area, and a bar without height has none.
        self.same(sheet(bars((50, 0, 100, 25)), 0, 2, 4), ("..", "..", "..", ".o"))
        for height in (0, 10, 50, 100):
            self.same(sheet(bars((0, height, 100, height)), 0, 2, 2), ("..", ".."))

    def test_bars_beyond_the_ends(self):
        self.same(sheet(bars((-50, 0, 0, 100)), 0, 4, 2), ("....", "...."))
        self.same(sheet(bars((-50, 0, 1, 100)), 0, 4, 2), ("o...", "o..."))
        self.same(sheet(bars((100, 0, 150, 100)), 0, 4, 2), ("....", "...."))
        self.same(sheet(bars((99, 0, 150, 100), (-9, 0, 0, 60)), 0, 4, 2), ("...o", "...o"))
        self.same(sheet(bars((-50, 0, 150, 100)), 0, 4, 1), ("oooo",))
        told = picture(("bar", ALWAYS, ("of", 0), ("count", ONE), None, None),
                       ((("n", ("number", 0, 9)),), ((0,), (5,), (5,))))
        self.same(sheet(told, 0, 4, 4), ("..oo", "..oo", "oooo", "oooo"))

    def test_bars_of_several_hues(self):
        told = panel_of("bar", [
            ((0, 1), (0, 1), (50, 1), (100, 1), "red"), ((50, 1), (0, 1), (100, 1), (50, 1), "blue"),
        ])
        self.same(sheet(told, 0, 4, 2), ("bb..", "bbaa"))
        self.same(sheet(told, 0, 3, 2), ("bb.", "b*a"))
        self.same(sheet(told, 0, 1, 2), ("b", "*"))

    def test_lines_cell_by_cell(self):
        self.same(sheet(line((0, 100), (100, 0)), 0, 3, 3), ("oo.", ".oo", "..o"))
        self.same(sheet(line((0, 0), (100, 0)), 0, 3, 2), ("...", "ooo"))
        self.same(sheet(line((0, 100), (100, 100)), 0, 3, 2), ("ooo", "..."))
        self.same(sheet(line((0, 50), (100, 50)), 0, 3, 2), ("ooo", "..."))
        self.same(sheet(line((0, 0), (50, 100), (100, 0)), 0, 4, 2), (".ooo", "o..o"))
        self.same(sheet(line((0, 100), (50, 0), (100, 100)), 0, 2, 2), ("oo", "oo"))
        self.same(sheet(line((25, 20), (75, 20)), 0, 4, 2), ("....", ".ooo"))
        self.same(sheet(line((0, 0), (10, 100), (20, 0)), 0, 5, 4), ("o....", "o....", "o....", "oo..."))

    def test_lines_that_touch_a_corner(self):
        # A cell has its left and its lower edge, and so a line that rises through a corner has no third cell.
        self.same(sheet(line((0, 0), (100, 100)), 0, 2, 2), (".o", "o."))
        self.same(sheet(line((0, 100), (100, 0)), 0, 2, 2), ("oo", ".o"))
        self.same(sheet(line((0, 50), (50, 0)), 0, 2, 2), ("o.", "oo"))
        self.same(sheet(line((0, 50), (50, 100)), 0, 2, 2), ("oo", ".."))
        self.same(sheet(line((50, 0), (100, 50)), 0, 2, 2), (".o", ".o"))
        self.same(sheet(line((0, Fraction(99, 2)), (100, Fraction(101, 2))), 0, 2, 2), (".o", "o."))
        self.same(sheet(line((0, Fraction(101, 2)), (100, Fraction(99, 2))), 0, 2, 2), ("oo", ".o"))

    def test_a_line_with_one_point_alone(self):
        self.same(sheet(line((0, 0)), 0, 2, 2), ("..", "o."))
        self.same(sheet(line((49, 50)), 0, 2, 2), ("o.", ".."))
        for end in (50, 100):
            self.same(sheet(line((end, end)), 0, 2, 2), (".o", ".."))

    def test_lines_of_several_hues(self):
        told = panel_of("line", [
            ("x", (((0, 1), (0, 1)), ((100, 1), (100, 1)))), ("w", (((0, 1), (100, 1)), ((100, 1), (0, 1)))),
        ])
        self.same(sheet(told, 0, 3, 3), ("aab", ".*a", "b.a"))
        self.same(legend(told), (("a", "w"), ("b", "x")))

    def test_stretches_of_all_ways_cell_by_cell(self):
        chance = random.Random(60)
        steps = [Fraction(100 * k, 12) for k in range(13)]
        for _ in range(400):
            count = chance.randint(1, 5)
            places = [(x, chance.choice(steps)) for x in sorted(chance.sample(steps, count))]
            told = line(*places)
            wide, tall = chance.choice((1, 2, 3, 4, 6, 7)), chance.choice((1, 2, 3, 4, 5, 6))
            self.same(sheet(told, 0, wide, tall), drawn(told, 0, wide, tall), (places, wide, tall))

    def test_many_pictures_cell_by_cell(self):
        chance = random.Random(61)
        for told in some_pictures(62, 500):
            panel = chance.randrange(len(told[1]))
            wide, tall = chance.choice(SIZES + ((chance.randint(1, 20), chance.randint(1, 15)),))
            self.same(sheet(told, panel, wide, tall), drawn(told, panel, wide, tall), (told, wide, tall))

    def test_each_cell_is_that_of_four_of_the_sheet_with_twice_as_many(self):
        chance = random.Random(63)
        for told in some_pictures(64, 500):
            panel = chance.randrange(len(told[1]))
            wide, tall = chance.randint(1, 30), chance.randint(1, 30)
            coarse = sheet(told, panel, wide, tall)
            fine = sheet(told, panel, 2 * wide, 2 * tall)
            for row in range(tall):
                for column in range(wide):
                    four = {fine[2 * row + k][2 * column + j] for k in range(2) for j in range(2)}
                    signs = four - {"."}
                    wanted = "." if not signs else "*" if len(signs) > 1 else signs.pop()
                    self.assertEqual(coarse[row][column], wanted)

    def test_the_sequence_of_marks_does_not_count(self):
        chance = random.Random(65)
        for mark, panels in some_pictures(66, 150):
            others = tuple((side, axes, tuple(chance.sample(marks, len(marks)))) for side, axes, marks in panels)
            for panel in range(len(panels)):
                self.same(sheet((mark, others), panel, 9, 7), sheet((mark, panels), panel, 9, 7))

    def test_the_greatest_sheet_ends_soon(self):
        columns = (("n", ("number", 0, 30)), ("up", ("number", -9, 9)))
        rows = tuple((k % 31, k % 19 - 9) for k in range(40))
        for mark in ("point", "bar", "line"):
            told = picture((mark, ALWAYS, ("of", 0), ("mean", ("of", 1)), None, None), (columns, rows))
            found = self.quick(plate, told, 0, 120, 60)
            self.same((len(found), {len(text) for text in found}), (61, {121}))
            self.same(tuple(text[1:] for text in found[:-1]), drawn(told, 0, 120, 60))

    def test_long_fractions(self):
        third = Fraction(10 ** 200 + 1, 3 * 10 ** 198)
        told = line((Fraction(1, 10 ** 150), third), (100 - Fraction(1, 10 ** 150), 100))
        self.same(sheet(told, 0, 3, 3), drawn(told, 0, 3, 3))
        self.same(sheet(points((third, third)), 0, 3, 3), ("...", ".o.", "..."))


class LegendTests(Case):
    def test_legends(self):
        self.same(legend(points()), ())
        self.same(legend(("line", ())), ())
        self.same(legend(points((0, 0))), (("o", None),))
        self.same(legend(bars((0, 0, 1, 1), hue="o")), (("a", "o"),))
        self.same(legend(line((0, 0), hue="zz")), (("a", "zz"),))
        hues = ("f", "ab", "b", "aa", "z", "a")
        told = panel_of("point", [((0, 1), (0, 1), hue) for hue in hues * 2])
        self.same(legend(told), tuple(zip("abcdef", sorted(hues))))
        self.same(legend(told=told), legend(told))


class RulerTests(Case):
    def test_rulers_of_numbers(self):
        axis = ("number", (0, 1), (10, 1), ((0, 1), (5, 1), (10, 1)))
        told = panel_of("point", [], (axis, axis))
        self.same(rulers(told, 0, 4, 4), ("|-||", "||-|"))
        self.same(rulers(told, 0, 1, 2), ("|", "||"))
        self.same(rulers(told, 0, 10, 5), ("|----|---|", "|-|-|"))
        axis = ("number", (1, 2), (7, 2), ((1, 1), (2, 1), (3, 1)))
        told = panel_of("bar", [], (axis, axis))
        self.same(rulers(told, 0, 6, 3), ("-|-|-|", "|||"))
        self.same(rulers(told, 0, 12, 12), ("--|---|---|-", "-|---|---|--"))

    def test_rulers_of_words(self):
        told = panel_of("line", [], (("word", ("a", "b", "c")), AXES[1]))
        self.same(rulers(told, 0, 3, 4), ("|||", "||-|"))
        self.same(rulers(told, 0, 6, 1), ("-|-|-|", "|"))
        self.same(rulers(told, 0, 7, 2), ("-|-|-|-", "||"))
        self.same(rulers(points(), 0, 4, 3), ("-|-|", "|||"))
        told = panel_of("point", [], (("word", ("only",)), ("number", (3, 1), (4, 1), ((3, 1), (4, 1)))))
        self.same(rulers(told, 0, 2, 2), ("-|", "||"))
        self.same(rulers(told, 0, 3, 3), ("-|-", "|-|"))

    def test_rulers_of_many_pictures(self):
        for _, panels in some_pictures(67, 200):
            told = ("point", panels)
            for wide, tall in SIZES:
                across, up = rulers(told, 0, wide, tall)
                for axis, shown, count in ((panels[0][1][0], across, wide), (panels[0][1][1], up[::-1], tall)):
                    if axis[0] == "word":
                        size = len(axis[1])
                        places = [Fraction(100 * (2 * k + 1), 2 * size) for k in range(size)]
                    else:
                        low, high = Fraction(*axis[1]), Fraction(*axis[2])
                        places = [(Fraction(*tick) - low) / (high - low) * 100 for tick in axis[3]]
                    wanted = "".join(
                        "|" if any(within(place, k, count) for place in places) else "-" for k in range(count)
                    )
                    self.same(shown, wanted)

    def test_plates(self):
        self.same(plate(points((0, 0)), 0, 4, 3), ("|....", "|....", "|o...", "+-|-|"))
        self.same(plate(points((0, 0)), 0, 1, 1), ("|o", "+|"))
        self.same(plate(line((0, 0), (100, 100)), 0, 4, 4), ("|...o", "|..o.", "-.o..", "|o...", "+-|-|"))
        for told in some_pictures(68, 100):
            across, up = rulers(told, 0, 9, 7)
            rows = sheet(told, 0, 9, 7)
            self.same(plate(told, 0, 9, 7), tuple(up[k] + rows[k] for k in range(7)) + ("+" + across,))


class ErrorTests(Case):
    def test_panels_that_are_none(self):
        told = ("point", (("x", AXES, ()), ("y", AXES, ())))
        for call in (sheet, rulers, plate):
            for value in ODD_VALUES + (2, 3, -1, -2, Number(0), "0", (0,), 10 ** 89):
                if type(value) == int and 0 <= value <= 1:
                    continue
                self.raises(InvalidPart, call, told, value, 4, 3)
                self.raises(InvalidPart, call, told, value, 0, 0)
                self.raises(InvalidPart, call, told, value, None, None)
            self.raises(InvalidPart, call, ("point", ()), 0, 4, 3)
            call(told, 1, 4, 3)

    def test_widths_and_heights_that_are_none(self):
        told = points((0, 0))
        for call in (sheet, rulers, plate):
            for value in ODD_VALUES + (0, -1, 121, 10 ** 89, Number(5), "5", (5,)):
                if type(value) == int and 1 <= value <= 120:
                    continue
                self.raises(InvalidCount, call, told, 0, value, 3)
                self.raises(InvalidCount, call, told, 0, value, None)
            for value in ODD_VALUES + (0, -1, 61, 120, 10 ** 89, Number(5), "5", (5,)):
                if type(value) == int and 1 <= value <= 60:
                    continue
                self.raises(InvalidCount, call, told, 0, 3, value)
            call(told, 0, 120, 60)
            call(told, 0, 1, 1)

    def test_arguments_by_name(self):
        told = points((0, 0))
        self.same(sheet(tall=1, wide=2, panel=0, told=told), ("o.",))
        self.same(rulers(tall=1, wide=2, panel=0, told=told), ("||", "|"))
        self.same(plate(tall=1, wide=2, panel=0, told=told), ("|o.", "+||"))


if __name__ == "__main__":
    unittest.main()
