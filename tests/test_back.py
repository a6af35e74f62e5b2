"""[14], with [2], [3], [4]: heaps, their data, tellings that tell back, what is led back."""

import itertools
import random
import unittest
from fractions import Fraction

from drawntold import back, rowforms, tables
from drawntold.back import heap_data, heap_of, is_heap, led_back, tells_back
from drawntold.errors import InvalidColumns, InvalidPart, InvalidTable, InvalidTelling, Refused
from drawntold.forms import form
from drawntold.meaning import data
from drawntold.pictures import picture
from drawntold.rowforms import holds, keyed, reckoned
from drawntold.tables import plain, row_at, row_count, rows_over
from helper import (
    ALWAYS, COLUMNS, DRAWN_COLUMNS, FORMULA_COLUMNS, MARKS, NEVER, ODD_VALUES, ONE, TELLING,
    TEN_THOUSAND, WORTHS, WRONG_COLUMNS, WRONG_ROWS, WRONG_TELLINGS, Case, Number, Row, Word,
    number, some_cases, some_rows, some_telling,
)

EXAMPLES = """
>>> always = ("same", ("one",), ("one",))
>>> few = (("shop", ("word", ("south", "north"))), ("sold", ("number", 0, 2)))
>>> sums = ("bar", always, ("word", 0), ("sum", ("of", 1)), None, None)
>>> shops = (("shop", ("word", ("south", "north"))),)
>>> counts = ("bar", always, ("word", 0), ("count", ("one",)), None, None)
>>> [tells_back(few, sums), tells_back(shops, counts)]
[('no', ((('south', 0), 1),), ((('south', 0), 2),)), ('yes',)]
>>> [heap_data(few, sums, ((("south", 1), 3), (("north", 2), 1))), led_back(shops, counts, (((None, None, "south", (4, 1)), 1),))]
[(((None, None, 'north', (2, 1)), 1), ((None, None, 'south', (3, 1)), 1)), ((('south',), 4),)]
"""

SHOP, SOLD = ("word", 0), ("of", 1)
FEW = (("shop", ("word", ("south", "north"))), ("sold", ("number", 0, 2)))
SIGNED = (("shop", ("word", ("south", "north"))), ("sold", ("number", -1, 2)))
SHOPS = (("shop", ("word", ("south", "north"))),)
NUMBERS = (("n", ("number", -2, 3)),)
SMALL_COLUMNS = (FEW, SIGNED, SHOPS, NUMBERS, (("only", ("word", ("one",))),))
# South and north of FEW, by the number sold.
S, N = [tuple((shop, sold) for sold in range(3)) for shop in ("south", "north")]
YES = ("yes",)


def point(across=SHOP, up=("sum", SOLD), keep=ALWAYS, hue=None, side=None):
    return ("point", keep, across, up, hue, side)


def some_heap(chance, columns, most):
    """A heap of rows of the columns with counts up to the most."""
    indexes = chance.sample(range(row_count(columns)), min(row_count(columns), chance.randint(0, 6)))
    return tuple((row_at(columns, index), chance.randint(1, most)) for index in sorted(indexes))


def heaped(columns, telling, heap):
    """The data of a heap, worked out row by row of the table that it stands for."""
    _, keep, across, (word, amount), hue, side = telling
    found = {}
    for row, count in heap:
        if holds(columns, keep, row):
            place = tuple(None if key is None else keyed(columns, key, row) for key in (side, hue, across))
            found.setdefault(place, []).extend([reckoned(columns, amount, row)] * count)
    parts = []
    for place in sorted(found, key=lambda place: tuple("" if part is None else part for part in place)):
        amounts = found[place]
        if word == "each":
            ups = [(Fraction(amount), amounts.count(amount)) for amount in sorted(set(amounts))]
        else:
            ups = [(Fraction({
                "count": len(amounts), "sum": sum(amounts), "least": min(amounts),
                "most": max(amounts), "mean": Fraction(sum(amounts), len(amounts)),
            }[word]), 1)]
        parts += [(place + ((up.numerator, up.denominator),), many) for up, many in ups]
    return tuple(parts)


def goes_back(columns, telling):
    """Whether the telling tells back, by the words of Fact B."""
    _, word, rows = form(columns, telling)
    if None in rows or word not in ("each", "sum"):
        return False
    if word == "each":
        return len(set(rows)) == len(rows)
    return len({row[:3] for row in rows}) == len(rows) and all(row[3] != 0 for row in rows)


class HeapTests(Case):
    def test_examples_of_the_document(self):
        self.examples(EXAMPLES, {**vars(tables), **vars(rowforms), **vars(back)})

    def test_heaps(self):
        for value in (
            (), ((S[0], 1),), ((N[2], 10 ** 90 - 1),), tuple((row, 5) for row in S + N),
            ((S[1], 2), (N[0], 1)), ((S[2], 41), (N[2], 1)),
        ):
            self.same(is_heap(FEW, value), True, value)

    def test_what_is_no_heap(self):
        wrong = [
            [], [(S[0], 1)], ((S[0], 0),), ((S[0], -1),), ((S[0], True),), ((S[0], Number(1)),),
            ((S[0], "1"),), ((S[0], None),), ((S[0], (1, 1)),), ((S[0],),), ((S[0], 1, 1),), (S[0], 1),
            ((list(S[0]), 1),), ([S[0], 1],), ((S[0], 1), (S[0], 1)), ((S[1], 1), (S[0], 1)),
            ((N[0], 1), (S[0], 1)), ((S[0], 1), (N[0], 1), (N[0], 2)), ((1, S[0]),), ((("south", 3), 1),),
            ((("west", 0), 1),), ((("south", True), 1),), ((("south",), 1),), ((("south", 0, 0), 1),),
            Row(((S[0], 1),)), (Row((S[0], 1)),), ((Row(S[0]), 1),), (((Word("south"), 0), 1),),
            ((S[0], 1), (N[0], 1), None), ((S[0], 1), (N[0], 0)), ((S[0], 1.0),),
        ]
        for value in wrong + [value for value in ODD_VALUES if value != ()]:
            self.same(is_heap(FEW, value), False, str(value)[:99])
        for row in WRONG_ROWS:
            self.same(is_heap(COLUMNS, ((("rome", 8), 1), (row, 1))), False, str(row)[:99])
        # By the rows' indexes, not as Python orders words: north is behind south here.
        self.same(is_heap(FEW, ((N[0], 1), (S[0], 1))), False)

    def test_heap_of_tables(self):
        self.same(heap_of((FEW, ())), ())
        self.same(heap_of((FEW, (N[0], S[2], N[0], S[0], N[0]))), ((S[0], 1), (S[2], 1), (N[0], 3)))
        self.same(heap_of((FEW, S[1:2] * 40)), ((S[1], 40),))
        for telling, table in some_cases(30, 200):
            columns, rows = table
            heap = heap_of(table)
            self.same(is_heap(columns, heap), True)
            told = tuple(row for row, count in heap for _ in range(count))
            self.same(told, plain(table)[1])

    def test_heap_of_what_is_no_table(self):
        for value in ODD_VALUES:
            self.raises(InvalidTable, heap_of, value, index=0)
        self.raises(InvalidTable, heap_of, (FEW, (S[0], None)), index=1)
        self.raises(InvalidTable, heap_of, (FEW, S[:1] * 41), index=40)

    def test_wrong_columns_first(self):
        for value in WRONG_COLUMNS:
            self.raises(InvalidColumns, is_heap, value, ())
            self.raises(InvalidColumns, heap_data, value, TELLING, ())
            self.raises(InvalidColumns, tells_back, value, TELLING)
            self.raises(InvalidColumns, led_back, value, TELLING, ())
        self.raises(InvalidColumns, heap_data, None, None, None)
        self.raises(InvalidColumns, led_back, None, None, None)

    def test_wrong_tellings_then(self):
        for value, place in WRONG_TELLINGS + tuple((value, ()) for value in ODD_VALUES):
            self.raises(InvalidTelling, heap_data, FORMULA_COLUMNS, value, (), place=place)
            self.raises(InvalidTelling, heap_data, FORMULA_COLUMNS, value, None, place=place)
            self.raises(InvalidTelling, tells_back, FORMULA_COLUMNS, value, place=place)
            self.raises(InvalidTelling, led_back, FORMULA_COLUMNS, value, (), place=place)

    def test_arguments_by_name(self):
        telling = ("bar", ALWAYS, SHOP, ("count", ONE), None, None)
        heap = ((("south",), 2),)
        told = (((None, None, "south", (2, 1)), 1),)
        self.same(is_heap(value=heap, columns=SHOPS), True)
        self.same(heap_of(table=(SHOPS, (("south",),) * 2)), heap)
        self.same(heap_data(heap=heap, telling=telling, columns=SHOPS), told)
        self.same(tells_back(telling=telling, columns=SHOPS), YES)
        self.same(led_back(told=told, telling=telling, columns=SHOPS), heap)


class HeapDataTests(Case):
    def test_each_measure(self):
        heap = ((S[0], 2), (S[2], 3), (N[1], 4))
        for up, south, north in (
            (("count", ONE), (5, 1), (4, 1)), (("sum", SOLD), (6, 1), (4, 1)),
            (("least", SOLD), (0, 1), (1, 1)), (("most", SOLD), (2, 1), (1, 1)),
            (("mean", SOLD), (6, 5), (1, 1)), (("sum", number(-3)), (-15, 1), (-12, 1)),
            (("mean", ("times", -7, SOLD)), (-42, 5), (-7, 1)), (("sum", number(0)), (0, 1), (0, 1)),
        ):
            wanted = (((None, None, "north", north), 1), ((None, None, "south", south), 1))
            for mark in MARKS:
                self.same(heap_data(FEW, (mark,) + point(up=up)[1:], heap), wanted, up)
        self.same(heap_data(FEW, point(up=("each", SOLD)), heap), (
            ((None, None, "north", (1, 1)), 4), ((None, None, "south", (0, 1)), 2),
            ((None, None, "south", (2, 1)), 3),
        ))
        self.same(heap_data(FEW, point(ONE, up=("each", ("times", -1, SOLD))), heap), (
            ((None, None, 1, (-2, 1)), 3), ((None, None, 1, (-1, 1)), 4), ((None, None, 1, (0, 1)), 2),
        ))

    def test_rows_that_are_not_kept_and_unlike_rows_of_one_mark(self):
        heap = tuple((row, 10 ** k) for k, row in enumerate(S + N))
        self.same(heap_data(FEW, point(keep=NEVER), heap), ())
        self.same(heap_data(FEW, point(), ()), ())
        self.same(heap_data(FEW, point(SOLD, ("each", ONE), ("is", 0, "north")), heap), (
            ((None, None, 0, (1, 1)), 1000), ((None, None, 1, (1, 1)), 10000),
            ((None, None, 2, (1, 1)), 100000),
        ))
        self.same(heap_data(FEW, point(SOLD, ("each", ONE)), heap), (
            ((None, None, 0, (1, 1)), 1001), ((None, None, 1, (1, 1)), 10010),
            ((None, None, 2, (1, 1)), 100100),
        ))
        self.same(heap_data(FEW, point(ONE, ("count", ONE), hue=SHOP, side=SHOP), heap), (
            (("north", "north", 1, (111000, 1)), 1), (("south", "south", 1, (111, 1)), 1),
        ))

    def test_great_counts(self):
        great = 10 ** 90 - 1
        heap = ((S[1], great), (S[2], great - 1))
        self.same(heap_data(FEW, point(), heap), (((None, None, "south", (3 * great - 2, 1)), 1),))
        self.same(heap_data(FEW, point(up=("mean", SOLD)), heap),
                  (((None, None, "south", (3 * great - 2, 2 * great - 1)), 1),))
        self.same(heap_data(FEW, point(up=("each", ONE)), heap),
                  (((None, None, "south", (1, 1)), 2 * great - 1),))
        self.same(heap_data(FEW, point(up=("most", SOLD)), heap), (((None, None, "south", (2, 1)), 1),))

    def test_data_of_many_heaps(self):
        chance = random.Random(31)
        for _ in range(800):
            columns = chance.choice(DRAWN_COLUMNS + SMALL_COLUMNS)
            telling, heap = some_telling(chance, columns), some_heap(chance, columns, 9)
            self.same(heap_data(columns, telling, heap), heaped(columns, telling, heap), (telling, heap))

    def test_data_of_a_table_are_those_of_its_heap(self):
        for telling, table in some_cases(32, 400):
            told = heap_data(table[0], telling, heap_of(table))
            self.same(tuple(entry for entry, many in told for _ in range(many)), data(telling, table))

    def test_a_heap_of_ten_thousand_rows(self):
        heap = tuple((row, 2) for row in rows_over(TEN_THOUSAND))
        told = self.quick(heap_data, TEN_THOUSAND, point(("of", 0), ("sum", ("of", 3))), heap)
        self.same(told, tuple(((None, None, k, (9000, 1)), 1) for k in range(10)))

    def test_what_is_no_heap(self):
        for value in ODD_VALUES + (((S[0], 0),), ((S[0], 1), (S[0], 1)), [(S[0], 1)], ((S[0], True),)):
            if value != ():
                self.raises(InvalidPart, heap_data, FEW, point(), value)
                self.raises(InvalidTelling, heap_data, FEW, None, value, place=())


class TellsBackTests(Case):
    def lost(self, columns, telling, one, other):
        """The telling does not tell back, by these two heaps, which have one picture."""
        self.same(tells_back(columns, telling), ("no", one, other), telling)
        self.assertNotEqual(one, other)
        self.same(heap_data(columns, telling, one), heap_data(columns, telling, other))
        self.same(is_heap(columns, one) and is_heap(columns, other), True)
        self.raises(Refused, led_back, columns, telling, ())
        self.raises(Refused, led_back, columns, telling, None)

    def test_the_first_row_that_is_not_kept(self):
        self.lost(FEW, point(keep=NEVER), (), ((S[0], 1),))
        self.lost(FEW, point(SOLD, ("each", SOLD), ("is", 0, "south")), (), ((N[0], 1),))
        self.lost(FEW, point(up=("mean", SOLD), keep=("below", SOLD, number(2))), (), ((S[2], 1),))
        # Ahead of a row of amount 0 and of two of one place, which come first.
        self.lost(FEW, point(keep=("not", ("and", ("is", 0, "north"), ("same", SOLD, number(2))))),
                  (), ((N[2], 1),))

    def test_the_first_row_of_least_most_and_mean(self):
        for word in ("least", "most", "mean"):
            self.lost(FEW, point(up=(word, SOLD)), ((S[0], 1),), ((S[0], 2),))
            self.lost(FEW, point(SOLD, (word, ONE), hue=SHOP), ((S[0], 1),), ((S[0], 2),))
            self.lost(NUMBERS, point(("of", 0), (word, ("of", 0))), (((-2,), 1),), (((-2,), 2),))

    def test_the_first_row_of_amount_nought(self):
        self.lost(FEW, point(SOLD, hue=SHOP), ((S[0], 1),), ((S[0], 2),))
        self.lost(FEW, point(up=("sum", ("add", SOLD, number(-2))), hue=SHOP), ((S[2], 1),), ((S[2], 2),))
        # Ahead of the first two rows of one place, which come ahead of it here.
        self.lost(FEW, point(ONE, ("sum", ("add", SOLD, number(-1)))), ((S[1], 1),), ((S[1], 2),))
        self.lost(NUMBERS, point(("of", 0), ("sum", ("of", 0))), (((0,), 1),), (((0,), 2),))

    def test_two_rows_of_one_place_and_amount_of_each(self):
        self.lost(FEW, point(up=("each", ONE)), ((S[0], 1),), ((S[1], 1),))
        self.lost(FEW, point(ONE, ("each", SOLD)), ((S[0], 1),), ((N[0], 1),))
        self.lost(FEW, point(SOLD, ("each", ("bin", SOLD, 2)), hue=None), ((S[0], 1),), ((N[0], 1),))
        self.lost(FEW, point(("bin", SOLD, 2), ("each", ONE), hue=SHOP), ((S[0], 1),), ((S[1], 1),))
        self.same(tells_back(FEW, point(up=("each", SOLD))), YES)
        self.same(tells_back(FEW, point(SOLD, ("each", number(0)), hue=SHOP)), YES)

    def test_the_first_two_go_by_the_first_of_them(self):
        columns = (("n", ("number", 0, 3)),)
        further = ("add", ("of", 0), ONE)
        across = ("add", ("bin", further, 2), ("times", -1, ("bin", further, 4)))
        self.assertEqual([row[2] for row in form(columns, point(across, ("count", ONE)))[2]], [0, 2, 2, 0])
        # Rows 1 and 2 are one behind another, but of 0 and 3 the first one is ahead of them.
        self.lost(columns, point(across, ("each", ONE)), (((0,), 1),), (((3,), 1),))
        self.lost(columns, point(across, ("sum", further)), (((0,), 4),), (((3,), 1),))
        pairs = (("a", ("word", ("p", "q"))), ("n", ("number", 0, 1)), ("b", ("word", ("x", "y"))))
        self.lost(pairs, point(("of", 1), ("each", ONE)), ((("p", 0, "x"), 1),), ((("p", 0, "y"), 1),))
        self.lost(pairs, point(("of", 1), ("each", ONE), hue=("word", 2)), ((("p", 0, "x"), 1),),
                  ((("q", 0, "x"), 1),))

    def test_two_rows_of_one_place_of_sums(self):
        self.lost(FEW, point(up=("count", ONE)), ((S[0], 1),), ((S[1], 1),))
        self.lost(FEW, point(up=("sum", ("add", SOLD, ONE))), ((S[0], 2),), ((S[1], 1),))
        self.lost(FEW, point(SOLD, ("count", ONE)), ((S[0], 1),), ((N[0], 1),))
        self.lost(FEW, point(up=("sum", ("add", SOLD, number(-3)))), ((S[0], 2),), ((S[1], 3),))
        self.lost(FEW, point(up=("sum", ("add", SOLD, number(5)))), ((S[0], 6),), ((S[1], 5),))
        # 4 and 6: the greatest divisor of both is 2.
        self.lost(FEW, point(up=("sum", ("add", ("times", 2, SOLD), number(4)))), ((S[0], 3),), ((S[1], 2),))
        self.lost(FEW, point(up=("sum", number(7))), ((S[0], 1),), ((S[1], 1),))

    def test_two_rows_of_one_place_whose_amounts_go_up_and_down(self):
        columns = (("n", ("number", 0, 1)),)
        for low, step, counts in (
            (-1, 3, (1, 3, 1)), (-4, 10, (1, 4, 2)), (6, -10, (1, 3, 3)), (-3, 4, (1, 2, 3)), (2, -4, (1, 2, 1)),
        ):
            amount = ("add", number(low), ("times", step, ("of", 0)))
            count, more, others = counts
            self.lost(columns, point(ONE, ("sum", amount)), (((0,), count),), (((0,), more), ((1,), others)))

    def test_tellings_that_tell_back(self):
        for columns, telling in (
            (SHOPS, point(up=("count", ONE))), (SHOPS, point(ONE, ("count", ONE), hue=SHOP)),
            (SHOPS, point(ONE, ("sum", number(-4)), side=SHOP)), (SHOPS, point(up=("each", ONE))),
            (FEW, point(up=("each", SOLD))), (FEW, point(SOLD, ("count", ONE), hue=SHOP)),
            (FEW, point(SOLD, ("sum", ("add", ("times", -5, SOLD), ONE)), side=SHOP)),
            (FEW, point(ONE, ("each", ("times", 3, SOLD)), side=SHOP)),
            (NUMBERS, point(ONE, ("each", ("of", 0)))), (NUMBERS, point(("of", 0), ("sum", ONE))),
            (NUMBERS, point(("of", 0), ("sum", ("add", ("times", 2, ("of", 0)), ONE)))),
            (FEW, point(SOLD, ("sum", ONE), keep=("or", ("is", 0, "north"), ("is", 0, "south")), hue=SHOP)),
        ):
            self.same(tells_back(columns, telling), YES, telling)
            for mark in MARKS:
                if telling[3][0] != "each":
                    self.same(tells_back(columns, (mark,) + telling[1:]), YES)

    def test_many_tellings_as_fact_b_says(self):
        chance = random.Random(33)
        yes = 0
        for _ in range(1500):
            columns = chance.choice(SMALL_COLUMNS)
            telling = some_telling(chance, columns)
            if chance.random() < 0.5:
                telling = telling[:1] + (ALWAYS,) + telling[2:]
            told = tells_back(columns, telling)
            self.same(told == YES, goes_back(columns, telling), telling)
            if told == YES:
                yes += 1
            else:
                self.lost(columns, telling, told[1], told[2])
        self.assertGreater(yes, 100)

    def test_heaps_that_are_told_are_the_first_ones(self):
        chance = random.Random(34)
        for _ in range(600):
            columns = chance.choice(SMALL_COLUMNS)
            telling = some_telling(chance, columns)
            if chance.random() < 0.7:
                telling = telling[:1] + (ALWAYS,) + telling[2:]
            _, word, entries = form(columns, telling)
            rows = rows_over(columns)
            told = tells_back(columns, telling)
            if None in entries:
                self.same(told, ("no", (), ((rows[entries.index(None)], 1),)))
            elif word in ("least", "most", "mean"):
                self.same(told, ("no", ((rows[0], 1),), ((rows[0], 2),)))
            elif word == "sum" and 0 in [entry[3] for entry in entries]:
                row = rows[[entry[3] for entry in entries].index(0)]
                self.same(told, ("no", ((row, 1),), ((row, 2),)))
            else:
                size = 4 if word == "each" else 3
                pairs = [(k, j) for k, j in itertools.combinations(range(len(rows)), 2)
                         if entries[k][:size] == entries[j][:size]]
                if pairs:
                    self.same({row for heap in told[1:] for row, _ in heap}, {rows[k] for k in pairs[0]})
                else:
                    self.same(told, YES)

    def test_unlike_small_heaps_have_unlike_data_exactly_where_it_is_told(self):
        chance = random.Random(35)
        columns = (("a", ("word", ("y", "x"))), ("n", ("number", -1, 1)))
        heaps = [
            tuple((row, count) for row, count in zip(rows_over(columns), counts) if count)
            for counts in itertools.product(range(3), repeat=6)
        ]
        for _ in range(12):
            telling = some_telling(chance, columns)
            telling = telling[:1] + (ALWAYS,) + telling[2:]
            told = tells_back(columns, telling)
            found = {heap_data(columns, telling, heap) for heap in heaps}
            if told == YES:
                self.assertEqual(len(found), len(heaps))
        for telling in (point(up=("each", SOLD)), point(SOLD, ("sum", ("add", SOLD, number(2))), hue=SHOP)):
            self.same(tells_back(columns, telling), YES)
            self.assertEqual(len({heap_data(columns, telling, heap) for heap in heaps}), len(heaps))
        for telling in (point(up=("each", ONE)), point(SOLD, ("sum", ("add", SOLD, number(2))))):
            self.assertLess(len({heap_data(columns, telling, heap) for heap in heaps}), len(heaps))

    def test_ten_thousand_rows(self):
        a, b, c, d = (("of", k) for k in range(4))
        index = ("add", ("add", ("times", 20, ("times", 20, ("times", 10, a))), ("times", 20, ("times", 10, b))),
                 ("add", ("times", 10, c), d))
        self.same(self.quick(tells_back, TEN_THOUSAND, point(index, ("sum", ("add", index, ONE)))), YES)
        self.same(self.quick(tells_back, TEN_THOUSAND, point(ONE, ("each", index))), YES)
        self.same(self.quick(tells_back, TEN_THOUSAND, point(ONE, ("sum", ("add", d, ONE)))),
                  ("no", (((0, 0, 0, 0), 2),), (((0, 0, 0, 1), 1),)))
        self.same(self.quick(tells_back, TEN_THOUSAND, point(ONE, ("each", ("bin", index, 100)))),
                  ("no", (((0, 0, 0, 0), 1),), (((0, 0, 0, 1), 1),)))


class LedBackTests(Case):
    def test_heaps_are_led_back_from_their_data(self):
        chance = random.Random(36)
        led = 0
        for _ in range(1500):
            columns = chance.choice(SMALL_COLUMNS + DRAWN_COLUMNS[1:])
            telling = some_telling(chance, columns)
            telling = telling[:1] + (ALWAYS,) + telling[2:]
            if tells_back(columns, telling) == YES:
                led += 1
                for most in (1, 50, 10 ** 60):
                    heap = some_heap(chance, columns, most)
                    self.same(led_back(columns, telling, heap_data(columns, telling, heap)), heap)
        self.assertGreater(led, 150)

    def test_of_a_count(self):
        counts = point(up=("count", ONE))
        south, north = (None, None, "south", (4, 1)), (None, None, "north", (9, 1))
        self.same(led_back(SHOPS, counts, ()), ())
        self.same(led_back(SHOPS, counts, ((north, 1), (south, 1))), ((("south",), 4), (("north",), 9)))
        for told in (
            ((south, 1), (north, 1)), ((south, 2),), ((south, 0),), ((south, True),), ((south, 1), (south, 1)),
            ((south[:3] + ((0, 1),), 1),), ((south[:3] + ((-4, 1),), 1),), ((south[:3] + ((1, 2),), 1),),
            ((south[:3] + ((9, 2),), 1),), ((south[:3] + ((4, 2),), 1),), ((south[:3] + (4,), 1),),
            ((south[:3] + ((4, True),), 1),), ((south[:3] + ([4, 1],), 1),), ((south[:3] + ((True, 1),), 1),),
            (((None, None, "west", (4, 1)), 1),), (((None, "south", "south", (4, 1)), 1),),
            ((("south", None, "south", (4, 1)), 1),), (((None, None, 0, (4, 1)), 1),),
            (((False, None, "south", (4, 1)), 1),), (((None, None, Word("south"), (4, 1)), 1),),
            ((list(south), 1),), ([south, 1],), [(south, 1)], ((Row(south), 1),), Row(((south, 1),)),
            (Row((south, 1)),), ((south,),), ((south, 1, 1),), (south,), ((south[:3], 1),), (south, 1),
            ((south, Number(1)),), (((None, None, ("south",), (4, 1)), 1),),
            (((None, None, ["south"], (4, 1)), 1),), (((None, [], "south", (4, 1)), 1),),
            ((south, 1), None), ((south, 1), ((None, None, "west", (4, 1)), 1)), ((south, 10 ** 89),),
        ):
            self.same(led_back(SHOPS, counts, told), None, told)

    def test_of_sums(self):
        telling = point(("of", 0), ("sum", ("add", ("times", 2, ("of", 0)), ONE)))
        # The amounts are -3, -1, 1, 3, 5, 7.
        for n, amount in zip(range(-2, 4), (-3, -1, 1, 3, 5, 7)):
            for up in range(-15, 16):
                wanted = (((n,), up // amount),) if up % amount == 0 and up // amount > 0 else None
                self.same(led_back(NUMBERS, telling, (((None, None, n, (up, 1)), 1),)), wanted, (n, up))
        for across in (-3, 4, True, False, None, "n", (1, 1), Number(1), 10 ** 89):
            self.same(led_back(NUMBERS, telling, (((None, None, across, (3, 1)), 1),)), None)
        self.same(led_back(NUMBERS, telling, (((None, None, 1, (6, 1)), 1), ((None, None, 3, (7, 1)), 1))),
                  (((1,), 2), ((3,), 1)))

    def test_of_each(self):
        telling = point(up=("each", ("times", 2, SOLD)))
        told = (((None, None, "north", (2, 1)), 7), ((None, None, "south", (0, 1)), 1),
                ((None, None, "south", (4, 1)), 10 ** 89))
        self.same(led_back(FEW, telling, told), ((S[0], 1), (S[2], 10 ** 89), (N[1], 7)))
        for part in range(3):
            for wrong in (0, -1, True, None, "1", (1, 1), Number(1)):
                bent = told[:part] + ((told[part][0], wrong),) + told[part + 1:]
                self.same(led_back(FEW, telling, bent), None, bent)
        for up in ((1, 1), (3, 1), (-2, 1), (6, 1), (2, 3), (2, 2), (True, 1), (0, True), 0, None, "0"):
            self.same(led_back(FEW, telling, (((None, None, "south", up), 1),)), None)
        self.same(led_back(FEW, telling, told[::-1]), None)
        self.same(led_back(FEW, telling, told + told[2:]), None)
        self.same(led_back(FEW, telling, told[1:]), ((S[0], 1), (S[2], 10 ** 89)))

    def test_odd_values(self):
        for value in ODD_VALUES:
            for up in (("count", ONE), ("each", ONE), ("sum", number(-1))):
                wanted = () if value == () and type(value) == tuple else None
                self.same(led_back(SHOPS, point(up=up), value), wanted)
                if value != ():
                    self.same(led_back(SHOPS, point(up=up), (value,)), None)
                    self.same(led_back(SHOPS, point(up=up), ((value, 1),)), None)

    def test_bent_data(self):
        chance = random.Random(37)
        columns = (("shop", ("word", ("south", "north"))), ("sold", ("number", 0, 1)))
        rows = rows_over(columns)
        for up in (("sum", ("add", ("times", 4, SOLD), number(-3))), ("each", ("times", 4, SOLD))):
            telling = ("point", ALWAYS, ("of", 1), up, SHOP, SHOP)
            self.same(tells_back(columns, telling), YES)
            heaps = {}
            for counts in itertools.product(range(7), repeat=4):
                heap = tuple((row, count) for row, count in zip(rows, counts) if count)
                heaps[heap_data(columns, telling, heap)] = heap
            found = []
            for _ in range(1500):
                bent = list(heap_data(columns, telling, some_heap(chance, columns, 2)))
                for _ in range(chance.randint(1, 2)):
                    self.bend(chance, bent)
                found.append(led_back(columns, telling, tuple(bent)))
                # All that is bent is within the counts of the heaps.
                self.same(found[-1], heaps.get(tuple(bent)), bent)
            self.assertTrue(100 < found.count(None) < 1400, found.count(None))

    def bend(self, chance, told):
        """Changes a list of told data, which may be data all the same."""
        kind = chance.randrange(5)
        if not told or kind == 0:
            chance.shuffle(told)
        elif kind == 1:
            del told[chance.randrange(len(told))]
        elif kind == 2:
            told.append(chance.choice(told))
        else:
            index = chance.randrange(len(told))
            (side, hue, across, up), many = told[index]
            if kind == 3:
                up = (up[0] + chance.choice((1, -1, 2, -3)), 1)
            else:
                many += chance.choice((1, -1))
            told[index] = ((side, hue, across, up), many)

    def test_refused_behind_the_errors_of_the_arguments(self):
        for word in WORTHS:
            self.raises(Refused, led_back, FEW, point(up=(word, SOLD)), ())
        for value in ODD_VALUES:
            self.raises(Refused, led_back, FEW, point(), value)
            self.raises(InvalidTelling, led_back, FEW, ("dot",) * 6, value, place=(0,))

    def test_ten_thousand_rows(self):
        telling = point(("of", 0), ("each", ("add", ("times", 10, ("of", 2)), ("of", 3))))
        self.same(tells_back(TEN_THOUSAND, telling)[0], "no")
        columns = TEN_THOUSAND[:3] + (("d", ("word", tuple("jihgfe"))),)
        telling = ("point", ALWAYS, ("of", 0), ("each", ("add", ("times", 10, ("of", 1)), ("of", 2))),
                   ("word", 3), None)
        heap = tuple((row, 3 + k) for k, row in enumerate(rows_over(columns)))
        told = heap_data(columns, telling, heap)
        self.same(self.quick(led_back, columns, telling, told), heap)
        self.same(self.quick(led_back, columns, telling, told[:1500] + told[1499:]), None)

    def test_pictures_tell_tables_back(self):
        chance = random.Random(38)
        telling = ("bar", ALWAYS, SOLD, ("sum", ("add", SOLD, number(-5))), SHOP, None)
        self.same(tells_back(FEW, telling), YES)
        found = {}
        for _ in range(300):
            table = (FEW, some_rows(chance, FEW, chance.randint(0, 5)))
            heap = heap_of(table)
            self.same(found.setdefault(picture(telling, table), heap), heap)
            told = tuple((entry, 1) for entry in data(telling, table))
            self.same(led_back(FEW, telling, told), heap)


if __name__ == "__main__":
    unittest.main()
