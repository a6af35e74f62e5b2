"""[13], with [2], [3], [4]: forms of tellings, tellings that are alike, the tables that part them."""

import itertools
import random
import unittest

from drawntold import forms, rowforms, sameness, tables
from drawntold.errors import InvalidColumns, InvalidTelling
from drawntold.forms import form
from drawntold.meaning import data
from drawntold.pictures import picture
from drawntold.rowforms import holds, keyed, reckoned
from drawntold.sameness import alike
from drawntold.tables import row_index, rows_over
from drawntold.tellings import is_telling
from helper import (
    ALWAYS, COLUMNS, DRAWN_COLUMNS, MARKS, NEVER, ODD_VALUES, ONE, RIGHT_COLUMNS, TELLING,
    TEN_THOUSAND, WORTHS, WRONG_COLUMNS, WRONG_TELLINGS, YEARS, Case, number, some_rows, some_telling,
)
from helper import FORMULA_COLUMNS

EXAMPLES = """
>>> always = ("same", ("one",), ("one",))
>>> few = (("shop", ("word", ("south", "north"))), ("sold", ("number", 0, 2)))
>>> sums = ("bar", always, ("word", 0), ("sum", ("of", 1)), None, None)
>>> mosts = ("bar", always, ("word", 0), ("most", ("of", 1)), None, None)
>>> [form(few, sums)[:2], form(few, sums)[2][4], alike(few, sums, mosts)]
[('bar', 'sum'), (None, None, 'north', 1), ('no', (('south', 1), ('south', 1)))]
"""

SHOP, SOLD = ("word", 0), ("of", 1)
FEW = (("shop", ("word", ("south", "north"))), ("sold", ("number", 0, 2)))
BELOW = (("shop", ("word", ("south", "north"))), ("sold", ("number", -1, 1)))
SMALL_COLUMNS = (
    FEW, BELOW, (("n", ("number", -2, 2)),), (("n", ("number", 0, 0)), ("a", ("word", ("b", "a")))),
    (("a", ("word", ("z", "y", "x"))), ("b", ("word", ("y", "a")))), (("only", ("word", ("one",))),),
    (("n", ("number", -1, 0)), ("m", ("number", 3, 4))),
)


def point(across=SHOP, up=("sum", SOLD), keep=ALWAYS, hue=None, side=None):
    return ("point", keep, across, up, hue, side)


def formed(columns, telling):
    """The form, worked out by the calls of [8] and the words of the document."""
    mark, keep, across, (word, amount), hue, side = telling
    told = []
    for row in rows_over(columns):
        entry = tuple(None if key is None else keyed(columns, key, row) for key in (side, hue, across))
        amount_told = 1 if word == "count" else reckoned(columns, amount, row)
        told.append(entry + (amount_told,) if holds(columns, keep, row) else None)
    return (mark, "sum" if word == "count" else word, tuple(told))


def least_parting(columns, telling, other):
    """The rows of the least table of at most two that parts two tellings, by trying; None if none."""
    rows = rows_over(columns)
    for count in range(3):
        # By the indexes one behind another, so that the first table found is the least one.
        for chosen in itertools.product(rows, repeat=count):
            if picture(telling, (columns, chosen)) != picture(other, (columns, chosen)):
                return chosen
    return None


def agree(columns, telling, other):
    """Whether the forms agree, by the words of Fact S."""
    mark, word, rows = form(columns, telling)
    other_mark, other_word, other_rows = form(columns, other)
    if (mark, rows) != (other_mark, other_rows):
        return False
    kept = [row for row in rows if row is not None]
    words = {word, other_word}
    if len(words) == 1:
        return True
    if "each" in words:
        return not kept
    if "sum" in words:
        return all(row[3] == 0 for row in kept)
    return all(len({row[3] for row in kept if row[:3] == place}) == 1 for place in {row[:3] for row in kept})


def some_change(chance, columns, telling):
    """A telling that is much like another one, perhaps alike."""
    mark, keep, across, (word, amount), hue, side = telling
    kind = chance.randrange(11)
    if kind in (0, 8, 9, 10):
        words = WORTHS + (("each",) if mark == "point" else ())
        return (mark, keep, across, (chance.choice(words), amount), hue, side)
    if kind == 1:
        return (mark, ("not", ("not", keep)), across, (word, amount), hue, side)
    if kind == 2 and across[0] != "word":
        return (mark, keep, ("add", across, number(chance.choice((0, 0, 1)))), (word, amount), hue, side)
    if kind == 3 and word != "count":
        return (mark, keep, across, (word, ("times", chance.choice((1, 1, 0)), amount)), hue, side)
    if kind == 4:
        return (mark, keep, across, (word, amount), side, hue)
    if kind == 5 and word == "count":
        return (mark, keep, across, (chance.choice(("sum", "mean", "most")), ONE), hue, side)
    if kind == 6:
        return (mark, NEVER, across, (word, amount), hue, side)
    return (chance.choice(MARKS), keep, across, (word, amount), hue, side)


def some_pairs(seed, count):
    """So many triples of columns and two tellings, many of which are alike."""
    chance = random.Random(seed)
    made = 0
    while made < count:
        columns = chance.choice(SMALL_COLUMNS)
        telling = some_telling(chance, columns)
        if chance.random() < 0.4:
            telling = telling[:3] + ((chance.choice(WORTHS), number(chance.choice((0, 0, 3)))),) + telling[4:]
        other = telling
        for _ in range(chance.choice((0, 1, 1, 2))):
            other = some_change(chance, columns, other)
        if is_telling(columns, other):
            made += 1
            yield columns, telling, other


class FormTests(Case):
    def test_examples_of_the_document(self):
        self.examples(EXAMPLES, {**vars(tables), **vars(rowforms), **vars(forms), **vars(sameness)})

    def test_form_of_each_mark_and_measure(self):
        for mark in MARKS:
            for word in WORTHS:
                telling = (mark, ALWAYS, SHOP, (word, ("times", 2, SOLD)), None, None)
                self.same(form(FEW, telling), (mark, word, (
                    (None, None, "south", 0), (None, None, "south", 2), (None, None, "south", 4),
                    (None, None, "north", 0), (None, None, "north", 2), (None, None, "north", 4),
                )))
            count = (mark, ALWAYS, SHOP, ("count", ONE), None, None)
            self.same(form(FEW, count), (mark, "sum", (
                ((None, None, "south", 1),) * 3 + ((None, None, "north", 1),) * 3
            )))
            self.same(form(FEW, count), form(FEW, (mark, ALWAYS, SHOP, ("sum", ONE), None, None)))
        self.same(form(FEW, point(up=("each", number(7))))[:2], ("point", "each"))
        self.same(form(FEW, point(up=("each", number(7))))[2][5], (None, None, "north", 7))

    def test_rows_that_are_not_kept(self):
        keep = ("and", ("is", 0, "north"), ("below", SOLD, number(2)))
        self.same(form(FEW, point(SOLD, keep=keep, hue=SHOP, side=SHOP)), ("point", "sum", (
            None, None, None, ("north", "north", 0, 0), ("north", "north", 1, 1), None,
        )))
        self.same(form(FEW, point(keep=NEVER, up=("mean", ONE))), ("point", "mean", (None,) * 6))

    def test_forms_of_many_tellings(self):
        chance = random.Random(20)
        for columns in DRAWN_COLUMNS + SMALL_COLUMNS:
            for _ in range(15):
                telling = some_telling(chance, columns)
                self.same(form(columns, telling), formed(columns, telling), telling)

    def test_forms_of_all_right_columns(self):
        for columns in RIGHT_COLUMNS:
            told = form(columns, ("bar", ALWAYS, ONE, ("count", ONE), None, None))
            self.same(told, ("bar", "sum", ((None, None, 1, 1),) * len(rows_over(columns))))

    def test_wrong_arguments(self):
        for value in WRONG_COLUMNS:
            self.raises(InvalidColumns, form, value, TELLING)
        self.raises(InvalidColumns, form, None, None)
        for value, place in WRONG_TELLINGS + tuple((value, ()) for value in ODD_VALUES):
            self.raises(InvalidTelling, form, FORMULA_COLUMNS, value, place=place)
        self.raises(InvalidTelling, form, COLUMNS, TELLING, place=(3,))

    def test_arguments_by_name(self):
        telling = ("bar", ALWAYS, SHOP, ("count", ONE), None, None)
        self.same(form(telling=telling, columns=FEW), form(FEW, telling))
        self.same(alike(other_telling=telling, telling=point(), columns=FEW), ("no", ()))


class AlikeTests(Case):
    def parted(self, columns, telling, other, wanted):
        """Two tellings are parted by these rows, or by none, either way round; trying says so too."""
        told = ("yes",) if wanted is None else ("no", wanted)
        self.same(alike(columns, telling, other), told, (telling, other))
        self.same(alike(columns, other, telling), told, (other, telling))
        self.same(least_parting(columns, telling, other), wanted, (telling, other))

    def test_one_telling(self):
        for mark in MARKS:
            for word in WORTHS:
                self.parted(FEW, (mark, ALWAYS, SHOP, (word, SOLD), SHOP, None),
                            (mark, ALWAYS, SHOP, (word, SOLD), SHOP, None), None)

    def test_unlike_marks_are_parted_by_no_rows(self):
        for mark, other in itertools.permutations(MARKS, 2):
            self.parted(FEW, (mark,) + point()[1:], (other,) + point(keep=NEVER)[1:], ())
            self.parted(FEW, (mark,) + point(keep=NEVER)[1:], (other,) + point(keep=NEVER)[1:], ())

    def test_tellings_told_otherwise(self):
        for telling, other in (
            (point(), point(up=("sum", ("add", number(5), ("add", SOLD, number(-5)))))),
            (point(up=("count", ONE)), point(up=("sum", ("bin", number(1), 1)))),
            (point(), point(keep=("not", NEVER))),
            (point(("bin", SOLD, 1)), point(("times", -1, ("times", -1, SOLD)))),
            (point(keep=("is", 0, "south")), point(keep=("not", ("is", 0, "north")))),
            (point(("bin", SOLD, 10)), point(number(0))),
            (point(keep=("below", SOLD, ONE)), point(keep=("same", SOLD, number(0)))),
        ):
            self.parted(FEW, telling, other, None)

    def test_rows_that_are_kept_by_one_alone(self):
        self.parted(FEW, point(), point(keep=("below", SOLD, number(2))), (("south", 2),))
        self.parted(FEW, point(), point(keep=("is", 0, "south")), (("north", 0),))
        self.parted(FEW, point(), point(keep=NEVER), (("south", 0),))
        # A row in which nothing goes up is seen all the same, as a mark at 0.
        self.parted(FEW, point(keep=("not", ("and", ("is", 0, "north"), ("same", SOLD, number(0))))),
                    point(), (("north", 0),))

    def test_unlike_keys_and_amounts(self):
        self.parted(FEW, point(), point(SOLD), (("south", 0),))
        self.parted(FEW, point(SOLD), point(("bin", SOLD, 2)), (("south", 1),))
        self.parted(FEW, point(), point(hue=SHOP), (("south", 0),))
        self.parted(FEW, point(hue=SHOP), point(side=SHOP), (("south", 0),))
        self.parted(FEW, point(), point(up=("sum", ("times", 2, SOLD))), (("south", 1),))
        self.parted(FEW, point(), point(up=("sum", ("bin", SOLD, 2))), (("south", 1),))
        self.parted(FEW, point(up=("count", ONE)), point(), (("south", 0),))
        self.parted(FEW, point(up=("most", ("add", SOLD, ("bin", SOLD, 2)))),
                    point(up=("least", ("times", 2, SOLD))), (("south", 1),))

    def test_each_is_parted_from_others_by_two_like_rows(self):
        for word in WORTHS:
            self.parted(FEW, point(up=("each", SOLD)), point(up=(word, SOLD)), (("south", 0),) * 2)
            self.parted(FEW, point(up=("each", SOLD), keep=("is", 0, "north")),
                        point(up=(word, SOLD), keep=("is", 0, "north")), (("north", 0),) * 2)
            self.parted(FEW, point(up=("each", SOLD), keep=NEVER), point(up=(word, SOLD), keep=NEVER), None)
            self.parted(FEW, point(up=("each", number(0))), point(up=(word, number(0))), (("south", 0),) * 2)
        self.parted(FEW, point(up=("each", ONE)), point(up=("count", ONE)), (("south", 0),) * 2)

    def test_sums_are_parted_from_others_by_what_is_not_nought(self):
        for word in ("least", "most", "mean"):
            self.parted(FEW, point(up=("sum", number(0))), point(up=(word, number(0))), None)
            self.parted(FEW, point(up=("sum", number(3))), point(up=(word, number(3))), (("south", 0),) * 2)
            self.parted(FEW, point(up=("sum", SOLD), keep=NEVER), point(up=(word, SOLD), keep=NEVER), None)
        # A row of nought and one that is not nought part some of them, two like ones all.
        self.parted(FEW, point(), point(up=("least", SOLD)), (("south", 0), ("south", 1)))
        self.parted(FEW, point(), point(up=("most", SOLD)), (("south", 1),) * 2)
        self.parted(FEW, point(), point(up=("mean", SOLD)), (("south", 0), ("south", 1)))
        down = ("times", -1, SOLD)
        self.parted(FEW, point(up=("sum", down)), point(up=("most", down)), (("south", 0), ("south", 1)))
        self.parted(FEW, point(up=("sum", down)), point(up=("least", down)), (("south", 1),) * 2)
        # Not of one place, so that only like ones part them.
        for word in ("least", "most", "mean"):
            self.parted(FEW, point(SOLD), point(SOLD, up=(word, SOLD)), (("south", 1),) * 2)

    def test_least_most_and_mean_are_parted_by_unlike_amounts_of_one_place(self):
        for word, other in itertools.permutations(("least", "most", "mean"), 2):
            self.parted(BELOW, point(up=(word, SOLD)), point(up=(other, SOLD)), (("south", -1), ("south", 0)))
            self.parted(BELOW, point(SOLD, up=(word, SOLD)), point(SOLD, up=(other, SOLD)), None)
            self.parted(BELOW, point(up=(word, number(4))), point(up=(other, number(4))), None)
            self.parted(BELOW, point(SOLD, up=(word, ("times", 5, SOLD))),
                        point(SOLD, up=(other, ("times", 5, SOLD))), None)
            half = ("bin", SOLD, 2)
            self.parted(BELOW, point(half, up=(word, SOLD)), point(half, up=(other, SOLD)),
                        (("south", 0), ("south", 1)))

    def test_the_least_pair_is_that_of_the_least_first_row(self):
        columns = (("n", ("number", 0, 3)),)
        further = ("add", ("of", 0), ONE)
        across = ("add", ("bin", further, 2), ("times", -1, ("bin", further, 4)))
        self.assertEqual([row[2] for row in form(columns, point(across, ("sum", ONE)))[2]], [0, 2, 2, 0])
        # Rows 1 and 2 are one behind another, but of 0 and 3 the first one is ahead of them.
        least, most = ("least", further), ("most", further)
        self.parted(columns, point(across, least), point(across, most), ((0,), (3,)))
        columns = (("a", ("number", 0, 1)), ("b", ("number", 0, 3)))
        self.parted(columns, point(("of", 1), ("least", ("of", 0))), point(("of", 1), ("mean", ("of", 0))),
                    ((0, 0), (1, 0)))
        # One that comes first, but with like amounts, parts none.
        up = ("bin", ("of", 1), 2)
        self.parted(columns, point(up, ("least", ("of", 1))), point(up, ("most", ("of", 1))), ((0, 0), (0, 1)))

    def test_many_pairs_by_trying(self):
        answers = []
        for columns, telling, other in some_pairs(21, 700):
            self.parted(columns, telling, other, least_parting(columns, telling, other))
            answers.append(alike(columns, telling, other))
        counts = [sum(len(told) == 1 for told in answers)]
        counts += [sum(len(told) == 2 and len(told[1]) == count for told in answers) for count in range(3)]
        self.assertTrue(all(count > 30 for count in counts), counts)

    def test_alike_says_what_fact_s_says_of_the_forms(self):
        for columns, telling, other in some_pairs(22, 1500):
            self.same(alike(columns, telling, other) == ("yes",), agree(columns, telling, other))

    def test_tellings_that_are_alike_draw_one_picture_of_larger_tables_too(self):
        chance = random.Random(23)
        for columns, telling, other in some_pairs(24, 600):
            told = alike(columns, telling, other)
            if told == ("yes",):
                for _ in range(4):
                    table = (columns, some_rows(chance, columns, chance.randint(3, 40)))
                    self.same(picture(telling, table), picture(other, table), (telling, other))
            else:
                table = (columns, told[1])
                self.assertNotEqual(picture(telling, table), picture(other, table))
                if telling[0] == other[0]:
                    self.assertNotEqual(data(telling, table), data(other, table))

    def test_answers_either_way_round_and_over_many_columns(self):
        chance = random.Random(25)
        for columns in DRAWN_COLUMNS:
            for _ in range(10):
                telling, other = some_telling(chance, columns), some_telling(chance, columns)
                told = alike(columns, telling, other)
                self.same(alike(columns, other, telling), told)
                self.same(told == ("yes",), agree(columns, telling, other))
                if told != ("yes",):
                    indexes = [row_index(columns, row) for row in told[1]]
                    self.assertEqual(indexes, sorted(indexes))

    def test_columns_with_ten_thousand_rows(self):
        a, d = ("of", 0), ("of", 3)
        digits = ("add", ("times", 20, ("times", 5, ("of", 1))), ("add", ("times", 10, ("of", 2)), d))
        nought = ("times", 0, digits)
        least, most = point(a, ("least", digits)), point(a, ("most", digits))
        self.same(self.quick(alike, TEN_THOUSAND, least, most), ("no", ((0, 0, 0, 0), (0, 0, 0, 1))))
        for up, other, wanted in (
            (("sum", nought), ("least", nought), ("yes",)),
            (("sum", digits), ("sum", digits), ("yes",)),
            (("least", number(5)), ("mean", number(5)), ("yes",)),
            (("sum", digits), ("mean", digits), ("no", ((0, 0, 0, 0), (0, 0, 0, 1)))),
            (("sum", digits), ("most", digits), ("no", ((0, 0, 0, 1), (0, 0, 0, 1)))),
            (("each", nought), ("sum", nought), ("no", ((0, 0, 0, 0), (0, 0, 0, 0)))),
        ):
            self.same(self.quick(alike, TEN_THOUSAND, point(a, up), point(a, other)), wanted)
            self.same(self.quick(alike, TEN_THOUSAND, point(ONE, other), point(ONE, up)), wanted)
        # Only the last row of all is no 0, and only that of the last a.
        last = ("bin", ("add", ("add", a, ("of", 1)), ("add", ("of", 2), d)), 36)
        self.same(self.quick(alike, TEN_THOUSAND, point(ONE, ("sum", last)), point(ONE, ("least", last))),
                  ("no", ((0, 0, 0, 0), (9, 9, 9, 9))))
        self.same(self.quick(alike, TEN_THOUSAND, point(a, ("mean", last)), point(a, ("most", last))),
                  ("no", ((9, 0, 0, 0), (9, 9, 9, 9))))
        self.same(self.quick(alike, TEN_THOUSAND, point(a, ("sum", last)), point(a, ("sum", nought))),
                  ("no", ((9, 9, 9, 9),)))
        self.same(self.quick(alike, TEN_THOUSAND, point(keep=NEVER, across=a), point(d, keep=NEVER)), ("yes",))

    def test_wrong_arguments_in_their_sequence(self):
        for value in WRONG_COLUMNS:
            self.raises(InvalidColumns, alike, value, TELLING, TELLING)
        self.raises(InvalidColumns, alike, None, None, None)
        for value, place in WRONG_TELLINGS + tuple((value, ()) for value in ODD_VALUES):
            self.raises(InvalidTelling, alike, FORMULA_COLUMNS, value, TELLING, place=place)
            self.raises(InvalidTelling, alike, FORMULA_COLUMNS, TELLING, value, place=place)
            self.raises(InvalidTelling, alike, FORMULA_COLUMNS, value, ("dot",) * 6, place=place)
        self.raises(InvalidTelling, alike, FORMULA_COLUMNS, TELLING[:5] + (YEARS,), None, place=(5,))
        self.raises(InvalidTelling, alike, FORMULA_COLUMNS, None, TELLING[:5] + (YEARS,), place=())


if __name__ == "__main__":
    unittest.main()
