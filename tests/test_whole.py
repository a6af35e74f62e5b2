"""[1] and the Facts: what the layers promise over one another, from texts to pictures and back."""

import random
import unittest

from drawntold.back import heap_of, led_back, tells_back
from drawntold.console import Console
from drawntold.errors import Refused
from drawntold.kept import Kept
from drawntold.meaning import data
from drawntold.pictures import picture, told_data
from drawntold.sameness import alike
from drawntold.seen import hidden, piles
from drawntold.sheet import legend, plate
from drawntold.tables import reordered
from drawntold.tellings import retold
from drawntold.texts import (
    picture_text, picture_told, table_text, table_told, telling_text, telling_told,
)
from helper import ALWAYS, DRAWN_COLUMNS, Case, some_cases, some_rows, some_telling


class WholeTests(Case):
    def test_texts_and_pictures_tell_the_data(self):
        for telling, table in some_cases(100, 300):
            told = picture(telling_told(table[0], telling_text(table[0], telling)), table_told(table_text(table)))
            self.same(told, picture(telling, table))
            self.same(told_data(picture_told(picture_text(told))), data(telling, table))

    def test_pictures_are_one_exactly_if_the_data_are(self):
        chance = random.Random(101)
        for telling, table in some_cases(102, 300):
            columns, rows = table
            other_rows = some_rows(chance, columns, len(rows)) if chance.random() < 0.5 else rows[::-1]
            other = telling if chance.random() < 0.5 else some_telling(chance, columns)
            if other[0] == telling[0]:
                told, other_told = data(telling, table), data(other, (columns, other_rows))
                one = picture(telling, table) == picture(other, (columns, other_rows))
                self.same(one, told == other_told)

    def test_a_table_that_is_put_together_row_by_row_is_drawn_as_from_nothing(self):
        chance = random.Random(103)
        for telling, (columns, rows) in some_cases(104, 60):
            kept = Kept((columns, ()), some_telling(chance, columns))
            rest = list(range(len(rows)))
            chance.shuffle(rest)
            placed = []
            for index in rest:
                placed = sorted(placed + [index])
                kept.put_in(placed.index(index), rows[index])
            kept.retell(telling)
            self.same(kept.table, (columns, rows))
            self.same(kept.picture, picture(telling, (columns, rows)))
            self.same(kept.data, data(telling, (columns, rows)))
            self.same(kept.edits, len(rows) + 1)

    def test_pictures_lead_back_to_their_tables_where_they_tell_them(self):
        chance = random.Random(105)
        led = 0
        for _ in range(600):
            columns = chance.choice(DRAWN_COLUMNS[1:])
            telling = some_telling(chance, columns)
            telling = telling[:1] + (ALWAYS,) + telling[2:]
            if tells_back(columns, telling) != ("yes",):
                continue
            led += 1
            table = (columns, some_rows(chance, columns, 12))
            entries = told_data(picture(telling, table))
            told = tuple((entry, entries.count(entry)) for entry in dict.fromkeys(entries))
            self.same(led_back(columns, telling, told), heap_of(table))
        self.assertGreater(led, 60)

    def test_retold_tellings_are_alike_where_their_tellings_are(self):
        chance = random.Random(106)
        for _ in range(200):
            columns = chance.choice(DRAWN_COLUMNS[1:])
            order = tuple(chance.sample(range(len(columns)), len(columns)))
            others = tuple(columns[k] for k in order)
            telling, other = some_telling(chance, columns), some_telling(chance, columns)
            found = alike(columns, telling, other)
            other_found = alike(others, retold(columns, telling, order), retold(columns, other, order))
            self.same(len(found), len(other_found))
            if len(found) == 2:
                self.same(len(found[1]), len(other_found[1]))
                table = reordered((columns, found[1]), order)
                self.assertNotEqual(picture(retold(columns, telling, order), table),
                                    picture(retold(columns, other, order), table))
            self.same(tells_back(columns, telling)[0], tells_back(others, retold(columns, telling, order))[0])

    def test_what_is_seen_and_shown_is_that_of_the_picture_alone(self):
        for telling, (columns, rows) in some_cases(107, 100):
            table, other = (columns, rows), (columns, rows[::-1])
            self.same(hidden(telling, table), hidden(telling, other))
            self.same(piles(telling, table), piles(telling, other))
            told, other_told = picture(telling, table), picture(telling, other)
            self.same(legend(told), legend(other_told))
            for panel in range(len(told[1])):
                self.same(plate(told, panel, 20, 10), plate(other_told, panel, 20, 10))

    def test_a_console_that_is_told_its_own_answers_is_the_same(self):
        for telling, table in some_cases(108, 40):
            desk = Console()
            desk.execute(f"draw\n{telling_text(table[0], telling)}\n{table_text(table)}")
            self.same(desk.execute("same " + desk.execute("telling")), "yes")
            self.same(picture_told(desk.execute("picture")), picture(telling, table))
            self.same(table_told(desk.execute("table")), table)
            with self.assertRaises(Refused):
                desk.execute("undo")


if __name__ == "__main__":
    unittest.main()
