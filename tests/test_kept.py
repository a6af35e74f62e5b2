"""[15], with [2], [3], [4]: tables that are edited, with their data and pictures kept."""

import random
import unittest
from fractions import Fraction

from drawntold.errors import InvalidPart, InvalidTable, InvalidTelling, Refused, TooMany
from drawntold.kept import Kept
from drawntold.meaning import data, groups, kept_in
from drawntold.pictures import picture
from helper import (
    ALWAYS, COLUMNS, DRAWN_COLUMNS, FORMULA_COLUMNS, NEVER, ODD_VALUES, ONE, TELLING, WRONG_COLUMNS,
    WRONG_ROWS, WRONG_TELLINGS, Case, Number, Row, kinds, some_rows, some_telling,
)

SALES = (("shop", ("word", ("south", "north"))), ("day", ("number", 1, 9)), ("sold", ("number", 0, 30)))
ROWS = (("north", 1, 5), ("south", 1, 8), ("north", 4, 6))
SHOP, DAY, SOLD = ("word", 0), ("of", 1), ("of", 2)
SUMS = ("bar", ALWAYS, SHOP, ("sum", SOLD), None, None)
EACH = ("point", ALWAYS, SHOP, ("each", SOLD), None, None)
PANELS = ("point", ALWAYS, DAY, ("sum", SOLD), None, SHOP)
NOTHING = ((), ())
PROPERTIES = ("table", "telling", "data", "picture", "edits")


def north(up):
    return (None, None, "north", (up, 1))


def south(up):
    return (None, None, "south", (up, 1))


def surplus(entries, others):
    """What stands more often among entries than among others, by taking out one by one."""
    left = list(entries)
    for entry in others:
        if entry in left:
            left.remove(entry)
    def size(entry):
        return tuple("" if part is None else part for part in entry[:3]) + (Fraction(*entry[3]),)
    return tuple(sorted(left, key=size))


def redrawn(before, after):
    """The indexes of the panels that are unlike those of the same side in another picture."""
    if before[0] != after[0]:
        return tuple(range(len(after[1])))
    return tuple(k for k, panel in enumerate(after[1]) if panel not in before[1])


def looked_at(kept):
    """All that a Kept tells."""
    return [getattr(kept, name) for name in PROPERTIES] + [kept.moved(), kept.drawn()]


class KeptTests(Case):
    def stands(self, kept, rows, telling, edits, moved=None, drawn=None):
        """What a Kept tells is that of rows and telling, from nothing."""
        columns = kept.table[0]
        self.same(kept.table, (columns, tuple(rows)))
        self.same(kept.telling, telling)
        self.same(kept.data, data(telling, kept.table))
        self.same(kept.picture, picture(telling, kept.table))
        self.same(kept.edits, edits)
        if moved is not None:
            self.same(kept.moved(), moved)
        if drawn is not None:
            self.same(kept.drawn(), drawn)

    def unchanged(self, kept, error, name, *arguments, **fields):
        """An act raises this error and changes nothing."""
        before = kinds(looked_at(kept))
        self.raises(error, getattr(kept, name), *arguments, **fields)
        self.assertEqual(kinds(looked_at(kept)), before, (name, str(arguments)[:99]))

    def test_a_new_one(self):
        kept = Kept((SALES, ROWS), SUMS)
        self.stands(kept, ROWS, SUMS, 0, NOTHING, ())
        self.same(kept.data, (north(11), south(8)))
        self.unchanged(kept, Refused, "undo")
        self.unchanged(kept, Refused, "redo")
        self.stands(Kept((SALES, ()), EACH), (), EACH, 0, NOTHING, ())
        self.stands(Kept(telling=SUMS, table=(SALES, ROWS)), ROWS, SUMS, 0, NOTHING, ())

    def test_wrong_tables_and_then_wrong_tellings(self):
        for value in ODD_VALUES:
            self.raises(InvalidTable, Kept, value, SUMS, index=0)
            self.raises(InvalidTable, Kept, value, None, index=0)
            self.raises(InvalidTelling, Kept, (SALES, ROWS), value, place=())
        for value in WRONG_COLUMNS:
            self.raises(InvalidTable, Kept, (value, ()), SUMS, index=0)
        self.raises(InvalidTable, Kept, (SALES, ROWS + (None,)), None, index=3)
        self.raises(InvalidTable, Kept, (SALES, ROWS[:1] * 41), SUMS, index=40)
        for value, place in WRONG_TELLINGS:
            self.raises(InvalidTelling, Kept, (FORMULA_COLUMNS, ()), value, place=place)
        self.raises(InvalidTelling, Kept, (COLUMNS, ()), TELLING, place=(3,))

    def test_put_in_at_the_ends_and_between(self):
        kept = Kept((SALES, ROWS), SUMS)
        row = ("south", 9, 30)
        self.assertIsNone(kept.put_in(0, row))
        self.stands(kept, (row,) + ROWS, SUMS, 1, ((south(8),), (south(38),)), (0,))
        kept.put_in(4, row)
        self.stands(kept, (row,) + ROWS + (row,), SUMS, 2, ((south(38),), (south(68),)), (0,))
        kept.put_in(2, ("north", 1, 0))
        self.stands(kept, (row, ROWS[0], ("north", 1, 0)) + ROWS[1:] + (row,), SUMS, 3, NOTHING, ())
        first = Kept((SALES, ()), SUMS)
        first.put_in(row=ROWS[1], index=0)
        self.stands(first, ROWS[1:2], SUMS, 1, ((), (south(8),)), (0,))

    def test_take_out_at_the_ends_and_between(self):
        kept = Kept((SALES, ROWS + ROWS), SUMS)
        self.assertIsNone(kept.take_out(5))
        self.stands(kept, ROWS + ROWS[:2], SUMS, 1, ((north(22),), (north(16),)), (0,))
        kept.take_out(0)
        self.stands(kept, ROWS[1:] + ROWS[:2], SUMS, 2, ((north(16),), (north(11),)), (0,))
        kept.take_out(index=1)
        self.stands(kept, (ROWS[1],) + ROWS[:2], SUMS, 3, ((north(11),), (north(5),)), (0,))
        last = Kept((SALES, ROWS[:1]), SUMS)
        last.take_out(0)
        self.stands(last, (), SUMS, 1, ((north(5),), ()), ())
        self.unchanged(last, InvalidPart, "take_out", 0)

    def test_change(self):
        kept = Kept((SALES, ROWS), SUMS)
        self.assertIsNone(kept.change(2, ("south", 4, 0)))
        self.stands(kept, ROWS[:2] + (("south", 4, 0),), SUMS, 1, ((north(11),), (north(5),)), (0,))
        kept.change(row=("north", 3, 7), index=0)
        self.stands(kept, (("north", 3, 7), ROWS[1], ("south", 4, 0)), SUMS, 2,
                    ((north(5),), (north(7),)), (0,))
        # The same row is an edit, too.
        kept.change(1, ROWS[1])
        self.stands(kept, (("north", 3, 7), ROWS[1], ("south", 4, 0)), SUMS, 3, NOTHING, ())
        kept.undo()
        self.stands(kept, (("north", 3, 7), ROWS[1], ("south", 4, 0)), SUMS, 2, NOTHING, ())

    def test_retell(self):
        kept = Kept((SALES, ROWS), SUMS)
        lines = ("line",) + SUMS[1:]
        self.assertIsNone(kept.retell(lines))
        self.stands(kept, ROWS, lines, 1, NOTHING, (0,))
        kept.retell(telling=lines)
        self.stands(kept, ROWS, lines, 2, NOTHING, ())
        kept.retell(lines[:1] + (NEVER,) + lines[2:])
        self.stands(kept, ROWS, lines[:1] + (NEVER,) + lines[2:], 3, ((north(11), south(8)), ()), ())
        kept.retell(SUMS[:2] + (DAY,) + SUMS[3:])
        self.stands(kept, ROWS, SUMS[:2] + (DAY,) + SUMS[3:], 4,
                    ((), ((None, None, 1, (13, 1)), (None, None, 4, (6, 1)))), (0,))

    def test_indexes_that_are_none(self):
        for rows in ((), ROWS, ROWS[:1] * 40):
            kept = Kept((SALES, rows), SUMS)
            odd = [value for value in ODD_VALUES if type(value) != int]
            odd += [-1, -2, len(rows) + 1, 10 ** 90 - 1, Number(0), "0", (0,), ROWS[0]]
            for index in odd + [len(rows)]:
                self.unchanged(kept, InvalidPart, "take_out", index)
                self.unchanged(kept, InvalidPart, "change", index, ROWS[0])
                self.unchanged(kept, InvalidPart, "change", index, None)
            for index in odd:
                self.unchanged(kept, InvalidPart, "put_in", index, ROWS[0])
                self.unchanged(kept, InvalidPart, "put_in", index, None)

    def test_rows_that_are_none(self):
        for rows in ((), (("rome", 8),) * 3, (("rome", 8),) * 40):
            kept = Kept((COLUMNS, rows), ("bar", ALWAYS, SHOP, ("count", ONE), None, None))
            for row in WRONG_ROWS:
                self.unchanged(kept, InvalidPart, "put_in", 0, row)
                self.unchanged(kept, InvalidPart, "put_in", len(rows), row)
                self.unchanged(kept, InvalidPart, "change", 0, row)
        kept = Kept((SALES, ROWS), SUMS)
        self.unchanged(kept, InvalidPart, "change", 0, Row(ROWS[0]))
        self.unchanged(kept, InvalidPart, "change", 0, list(ROWS[0]))

    def test_the_41st_row(self):
        kept = Kept((SALES, ROWS[:1] * 39), SUMS)
        kept.put_in(39, ROWS[1])
        for index in (0, 20, 40):
            self.unchanged(kept, TooMany, "put_in", index, ROWS[1], count=40)
        self.unchanged(kept, InvalidPart, "put_in", 41, ROWS[1])
        self.unchanged(kept, InvalidPart, "put_in", 40, None)
        self.unchanged(kept, InvalidPart, "put_in", 40, ("west", 1, 1))
        kept.change(39, ROWS[2])
        kept.take_out(0)
        kept.put_in(39, ROWS[1])
        self.stands(kept, ROWS[:1] * 38 + ROWS[2:] + ROWS[1:2], SUMS, 4)

    def test_tellings_that_are_none(self):
        kept = Kept((FORMULA_COLUMNS, (("rome", 8, "red", 0),)), TELLING)
        for value, place in WRONG_TELLINGS + tuple((value, ()) for value in ODD_VALUES):
            self.unchanged(kept, InvalidTelling, "retell", value, place=place)
        kept = Kept((COLUMNS, ()), ("bar", ALWAYS, SHOP, ("count", ONE), None, None))
        self.unchanged(kept, InvalidTelling, "retell", TELLING, place=(3,))

    def test_undo_and_redo(self):
        kept = Kept((SALES, ROWS), SUMS)
        kept.take_out(1)
        kept.retell(EACH)
        kept.put_in(2, ("north", 9, 6))
        self.stands(kept, (ROWS[0], ROWS[2], ("north", 9, 6)), EACH, 3, ((), (north(6),)), (0,))
        self.assertIsNone(kept.undo())
        self.stands(kept, (ROWS[0], ROWS[2]), EACH, 2, ((north(6),), ()), (0,))
        kept.undo()
        self.stands(kept, (ROWS[0], ROWS[2]), SUMS, 1, ((north(5), north(6)), (north(11),)), (0,))
        kept.undo()
        self.stands(kept, ROWS, SUMS, 0, ((), (south(8),)), (0,))
        self.unchanged(kept, Refused, "undo")
        self.assertIsNone(kept.redo())
        self.stands(kept, (ROWS[0], ROWS[2]), SUMS, 1, ((south(8),), ()), (0,))
        kept.redo()
        kept.redo()
        self.stands(kept, (ROWS[0], ROWS[2], ("north", 9, 6)), EACH, 3, ((), (north(6),)), (0,))
        self.unchanged(kept, Refused, "redo")

    def test_an_edit_forgets_what_redo_could_do(self):
        for act in (("put_in", 0, ROWS[0]), ("take_out", 0), ("change", 0, ROWS[0]), ("retell", SUMS)):
            kept = Kept((SALES, ROWS), SUMS)
            kept.take_out(0)
            kept.take_out(0)
            kept.undo()
            getattr(kept, act[0])(*act[1:])
            self.unchanged(kept, Refused, "redo")
            self.assertEqual(kept.edits, 2)
            kept.undo()
            kept.undo()
            self.stands(kept, ROWS, SUMS, 0)
            kept.redo()
            kept.redo()
            self.assertEqual(kept.edits, 2)

    def test_an_error_forgets_nothing(self):
        kept = Kept((SALES, ROWS), SUMS)
        kept.take_out(0)
        kept.undo()
        for name, *arguments in (("put_in", 9, ROWS[0]), ("take_out", 3), ("change", 0, None)):
            self.unchanged(kept, InvalidPart, name, *arguments)
        self.unchanged(kept, InvalidTelling, "retell", None, place=())
        kept.redo()
        self.stands(kept, ROWS[1:], SUMS, 1, ((north(11),), (north(6),)), (0,))

    def test_moved_tells_entries_as_often_as_the_surplus(self):
        kept = Kept((SALES, ROWS[:1] * 3 + ROWS[1:]), EACH)
        kept.retell(EACH[:3] + (("each", ("bin", SOLD, 10)),) + EACH[4:])
        self.same(kept.moved(), ((north(5),) * 3 + (north(6), south(8)), (north(0),) * 4 + (south(0),)))
        kept.take_out(0)
        self.same(kept.moved(), ((north(0),), ()))
        kept.change(0, ("south", 1, 25))
        self.same(kept.moved(), ((north(0),), (south(20),)))
        kept.undo()
        self.same(kept.moved(), ((south(20),), (north(0),)))

    def test_moved_sorts_ups_by_size(self):
        kept = Kept((SALES, (("north", 1, 20), ("north", 1, 9), ("north", 2, 10))), EACH)
        kept.retell(EACH[:3] + (("each", ("times", -1, SOLD)),) + EACH[4:])
        self.same(kept.moved(), ((north(9), north(10), north(20)), (north(-20), north(-10), north(-9))))
        kept.retell(("bar",) + EACH[1:3] + (("mean", SOLD),) + EACH[4:])
        self.same(kept.moved(), ((north(-20), north(-10), north(-9)), (north(13),)))

    def test_drawn_looks_at_each_side(self):
        rows = (("north", 1, 5), ("north", 9, 0), ("south", 1, 30), ("south", 4, 8))
        kept = Kept((SALES, rows), PANELS)
        kept.change(3, ("south", 4, 9))
        self.same(kept.drawn(), (1,))
        kept.change(0, ("north", 1, 6))
        self.same(kept.drawn(), (0,))
        # Another end of an axis is another axis of all panels.
        kept.change(2, ("south", 1, 29))
        self.same(kept.drawn(), (0, 1))
        kept.put_in(0, ("south", 4, 0))
        self.same(kept.drawn(), ())
        kept.undo()
        self.same(kept.drawn(), ())

    def test_drawn_tells_panels_that_come(self):
        rows = (("north", 1, 0), ("north", 9, 30))
        kept = Kept((SALES, rows), PANELS)
        kept.put_in(0, ("south", 4, 8))
        self.same(kept.drawn(), (1,))
        kept.undo()
        self.same(kept.drawn(), ())
        kept.redo()
        self.same(kept.drawn(), (1,))
        kept.take_out(1)
        kept.take_out(1)
        self.same(kept.drawn(), (0,))
        kept.take_out(0)
        self.same(kept.drawn(), ())
        kept.put_in(0, ("north", 4, 8))
        self.same(kept.drawn(), (0,))

    def test_drawn_of_another_mark_and_another_side(self):
        rows = (("north", 1, 0), ("south", 4, 8), ("south", 9, 30))
        kept = Kept((SALES, rows), PANELS)
        for mark in ("line", "bar", "point"):
            kept.retell((mark,) + PANELS[1:])
            self.same(kept.drawn(), (0, 1))
        kept.retell(PANELS[:5] + (None,))
        self.same(kept.drawn(), (0,))
        kept.retell(PANELS)
        self.same(kept.drawn(), (0, 1))
        # A side is its word, of whatever column.
        columns = (("a", ("word", ("x", "y"))), ("b", ("word", ("x", "y"))))
        count = ("point", ALWAYS, ONE, ("count", ONE), None, ("word", 0))
        kept = Kept((columns, (("x", "x"), ("y", "y"), ("y", "y"), ("x", "x"))), count)
        kept.retell(count[:5] + (("word", 1),))
        self.same(kept.drawn(), ())
        kept.change(0, ("x", "y"))
        self.same(kept.drawn(), (0, 1))
        kept.retell(count)
        self.same(kept.drawn(), (0, 1))

    def test_forks(self):
        kept = Kept((SALES, ROWS), SUMS)
        kept.take_out(0)
        kept.retell(EACH)
        kept.undo()
        fork = kept.fork()
        self.assertIs(type(fork), Kept)
        self.stands(fork, ROWS[1:], SUMS, 0, NOTHING, ())
        self.unchanged(fork, Refused, "undo")
        self.unchanged(fork, Refused, "redo")
        before = kinds(looked_at(kept))
        fork.put_in(0, ROWS[0])
        fork.retell(PANELS)
        self.stands(fork, ROWS, PANELS, 2)
        self.assertEqual(kinds(looked_at(kept)), before)
        before = kinds(looked_at(fork))
        kept.redo()
        kept.change(0, ROWS[2])
        self.stands(kept, (ROWS[2], ROWS[2]), EACH, 3)
        self.assertEqual(kinds(looked_at(fork)), before)
        fork.undo()
        self.stands(fork, ROWS, SUMS, 1)

    def test_asking_changes_nothing(self):
        kept = Kept((SALES, ROWS), SUMS)
        kept.take_out(0)
        kept.undo()
        before = kinds(looked_at(kept))
        for _ in range(3):
            self.assertEqual(kinds(looked_at(kept)), before)
            kept.fork()
        kept.redo()
        self.stands(kept, ROWS[1:], SUMS, 1)

    def act(self, chance, kept, states, at):
        """One act on a Kept, and what the list of states and the index in it are then."""
        telling, (columns, rows) = states[at]
        name = chance.choice(("put_in", "put_in", "take_out", "change", "retell", "undo", "undo", "redo"))
        if name in ("undo", "redo"):
            to = at + (1 if name == "redo" else -1)
            if not 0 <= to < len(states):
                self.unchanged(kept, Refused, name)
                return states, at
            getattr(kept, name)()
            return states, to
        index = chance.randint(0, len(rows))
        row, = some_rows(chance, columns, 1)
        after = rows
        if name == "put_in" and len(rows) == 40:
            self.unchanged(kept, TooMany, name, index, row, count=40)
            return states, at
        if name in ("take_out", "change") and index == len(rows):
            self.unchanged(kept, InvalidPart, name, *((index,) if name == "take_out" else (index, row)))
            return states, at
        if name == "put_in":
            kept.put_in(index, row)
            after = rows[:index] + (row,) + rows[index:]
        elif name == "take_out":
            kept.take_out(index)
            after = rows[:index] + rows[index + 1:]
        elif name == "change":
            kept.change(index, row)
            after = rows[:index] + (row,) + rows[index + 1:]
        else:
            telling = some_telling(chance, columns)
            kept.retell(telling)
        return states[:at + 1] + [(telling, (columns, after))], at + 1

    def test_behind_many_edits_all_is_as_from_nothing(self):
        chance = random.Random(40)
        for columns in DRAWN_COLUMNS * 4:
            table = (columns, some_rows(chance, columns, chance.choice((0, 3, 12, 38))))
            states, at = [(some_telling(chance, columns), table)], 0
            kept = Kept(table, states[0][0])
            for _ in range(60):
                before = states[at]
                count = len(states), at
                states, at = self.act(chance, kept, states, at)
                telling, table = states[at]
                self.stands(kept, table[1], telling, at)
                if (len(states), at) != count:
                    before_data, before_picture = data(*before), picture(*before)
                    self.same(kept.moved(), (surplus(before_data, kept.data), surplus(kept.data, before_data)))
                    self.same(kept.drawn(), redrawn(before_picture, kept.picture))

    def test_moved_has_entries_of_the_groups_of_the_row_alone(self):
        chance = random.Random(41)
        for columns in DRAWN_COLUMNS * 25:
            table = (columns, some_rows(chance, columns, 12))
            telling = some_telling(chance, columns)
            kept = Kept(table, telling)
            row, = some_rows(chance, columns, 1)
            index = chance.randrange(12)
            acts = {"put_in": (index, row), "take_out": (index,), "change": (index, row)}
            for name, arguments in acts.items():
                rows = ((row,) if name != "take_out" else ()) + (
                    (table[1][index],) if name != "put_in" else ())
                kept_rows = kept_in(telling, (columns, rows))
                places = {group[:3] for group in groups(telling, (columns, kept_rows))}
                getattr(kept, name)(*arguments)
                for undone in (None, kept.undo, kept.redo):
                    if undone is not None:
                        undone()
                    gone, come = kept.moved()
                    self.assertLessEqual({entry[:3] for entry in gone + come}, places)
                kept.undo()

    def test_many_edits_end_soon(self):
        kept = Kept((SALES, ROWS[:1] * 40), PANELS)

        def edit():
            for day in range(1, 10):
                for sold in range(31):
                    kept.change(sold, ("south", day, sold))
            while kept.edits:
                kept.undo()
        self.quick(edit, seconds=10)
        self.stands(kept, ROWS[:1] * 40, PANELS, 0)


if __name__ == "__main__":
    unittest.main()
