"""[2], [4] and the interface: names, parameters and files, equal answers to equal calls."""

import importlib
import inspect
import os
import subprocess
import sys
import unittest

from helper import Case

INTERFACE = {
    "fractions": {
        "is_fraction": ("value",), "fraction": ("top", "bottom"), "plus": ("one", "other"),
        "minus": ("one", "other"), "times": ("one", "other"), "over": ("one", "other"),
        "below": ("one", "other"), "sum_of": ("numbers",), "fraction_text": ("number",),
        "fraction_told": ("text",),
    },
    "tables": {
        "is_columns": ("value",), "is_row": ("columns", "value"), "is_table": ("value",),
        "table_fault": ("value",), "rows_over": ("columns",), "row_count": ("columns",),
        "row_index": ("columns", "row"), "row_at": ("columns", "index"), "plain": ("table",),
        "reordered": ("table", "order"),
    },
    "rowforms": {
        "is_amount": ("columns", "value"), "is_condition": ("columns", "value"),
        "is_key": ("columns", "value"), "reckoned": ("columns", "amount", "row"),
        "holds": ("columns", "condition", "row"), "keyed": ("columns", "key", "row"),
        "kept_rows": ("table", "condition"),
    },
    "tellings": {
        "telling_fault": ("columns", "value"), "is_telling": ("columns", "value"),
        "columns_in": ("columns", "telling"), "retold": ("columns", "telling", "order"),
        "swapped": ("columns", "telling", "part", "what"),
    },
    "meaning": {
        "data": ("telling", "table"), "groups": ("telling", "table"), "kept_in": ("telling", "table"),
    },
    "pictures": {
        "picture": ("telling", "table"), "place_on": ("axis", "value"), "band_on": ("axis", "word"),
        "told_data": ("picture",),
    },
    "ticks": {
        "steps_within": ("low", "high"), "ticks": ("low", "high", "wished"),
        "span_of": ("numbers", "with_nought"), "placed": ("number", "low", "high"),
        "tick_texts": ("numbers",),
    },
    "forms": {"form": ("columns", "telling")},
    "sameness": {"alike": ("columns", "telling", "other_telling")},
    "back": {
        "is_heap": ("columns", "value"), "heap_of": ("table",),
        "heap_data": ("columns", "telling", "heap"), "tells_back": ("columns", "telling"),
        "led_back": ("columns", "telling", "told"),
    },
    "seen": {
        "hidden": ("telling", "table"), "piles": ("telling", "table"), "areas": ("telling", "table"),
        "warned": ("telling", "table"),
    },
    "sheet": {
        "sheet": ("told", "panel", "wide", "tall"), "legend": ("told",),
        "rulers": ("told", "panel", "wide", "tall"), "plate": ("told", "panel", "wide", "tall"),
    },
    "texts": {
        "columns_told": ("text",), "table_told": ("text",), "columns_text": ("columns",),
        "table_text": ("table",), "telling_told": ("columns", "text"),
        "telling_text": ("columns", "telling"), "picture_told": ("text",), "picture_text": ("picture",),
    },
}
# Classes: their file, what makes one, their methods, their properties.
CLASSES = {
    "Kept": ("kept", ("table", "telling"), {
        "put_in": ("index", "row"), "take_out": ("index",), "change": ("index", "row"),
        "retell": ("telling",), "undo": (), "redo": (), "moved": (), "drawn": (), "fork": (),
    }, ("table", "telling", "data", "picture", "edits")),
    "Console": ("console", (), {"execute": ("command",)}, ()),
}

CALLS = """
from drawntold.fractions import *
from drawntold.tables import *
from drawntold.rowforms import *
from drawntold.tellings import *
from drawntold.meaning import *
from drawntold.pictures import *
from drawntold.sameness import *
from drawntold.back import *
from drawntold.kept import *
from drawntold.seen import *
from drawntold.sheet import *
from drawntold.texts import *
from drawntold.console import *
columns = (("city", ("word", ("rome", "oslo"))), ("age", ("number", 8, 10)))
table = (columns, (("oslo", 9), ("rome", 10), ("oslo", 8)))
telling = ("bar", ("same", ("one",), ("one",)), ("of", 1), ("sum", ("of", 1)), ("word", 0), ("word", 0))
print(columns_in(columns, telling), retold(columns, telling, (1, 0)), data(telling, table),
      groups(telling, table), picture(telling, table), told_data(picture(telling, table)), end=" ")
print(over((1, 2), (-1, 3)), fraction_text((-1, 8)), fraction_told("10/3"), rows_over(columns),
      plain(table), reordered(table, (1, 0)), kept_rows(table, ("is", 0, "oslo")),
      table_fault((table, 1)), keyed(columns, ("word", 0), ("rome", 8)), end=" ")
each = ("point", telling[1], ("of", 1), ("each", ("of", 1)), ("word", 0), None)
kept = Kept(table, telling)
kept.retell(each)
kept.take_out(1)
print(form(columns, telling), alike(columns, telling, each), heap_of(table), tells_back(columns, each),
      heap_data(columns, each, heap_of(table)), kept.moved(), kept.drawn(), kept.fork().data, end=" ")
print(hidden(each, table), piles(each, table), areas(telling, table), warned(telling, table),
      plate(kept.picture, 0, 9, 5), legend(kept.picture), end=" ")
desk = Console()
print([desk.execute(command) for command in (
    "draw\\n" + telling_text(columns, telling) + "\\n" + table_text(table), "insert 1 rome 9", "picture",
    "drawn", "back",
)])
"""


class InterfaceTests(Case):
    def takes(self, call, parameters):
        """A call takes just these parameters, by position or by name, without defaults."""
        told = inspect.signature(call).parameters.values()
        self.assertEqual(tuple(part.name for part in told), parameters, call)
        for part in told:
            self.assertEqual(part.kind, part.POSITIONAL_OR_KEYWORD, call)
            self.assertIs(part.default, part.empty, call)

    def test_names_parameters_and_files(self):
        for module, calls in INTERFACE.items():
            found = importlib.import_module("drawntold." + module)
            for name, parameters in calls.items():
                call = getattr(found, name)
                self.assertEqual(call.__module__, "drawntold." + module, name)
                self.takes(call, parameters)

    def test_classes(self):
        for name, (module, parameters, methods, properties) in CLASSES.items():
            made = getattr(importlib.import_module("drawntold." + module), name)
            self.assertEqual(made.__module__, "drawntold." + module, name)
            self.takes(made, parameters)
            for method, method_parameters in methods.items():
                self.takes(vars(made)[method], ("self",) + method_parameters)
            for told in properties:
                self.assertIsInstance(vars(made)[told], property, told)

    def test_equal_calls_tell_equal_answers_in_other_processes(self):
        answers = set()
        for seed in ("0", "1", "77"):
            told = subprocess.run(
                [sys.executable, "-c", CALLS + CALLS], capture_output=True, text=True, check=True,
                env={**os.environ, "PYTHONHASHSEED": seed},
            )
            first, second = told.stdout.splitlines()
            self.assertEqual(first, second)
            answers.add(first)
        self.assertEqual(len(answers), 1)


if __name__ == "__main__":
    unittest.main()
