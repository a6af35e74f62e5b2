"""[19], with [2], [3], [4]: commands, their answers and their errors; a console answers as a Kept."""

import random
import unittest

import grammar
from drawntold.back import tells_back
from drawntold.console import Console
from drawntold.errors import (
    DrawError, InvalidColumns, InvalidCommand, InvalidCount, InvalidPart, InvalidTable,
    InvalidTelling, Refused, TooMany, Unknown,
)
from drawntold.fractions import fraction_text
from drawntold.kept import Kept
from drawntold.meaning import data
from drawntold.pictures import picture
from drawntold.sameness import alike
from drawntold.seen import areas, hidden, piles, warned
from drawntold.sheet import plate
from drawntold.texts import picture_text, table_text, telling_text
from helper import ODD_VALUES, Case, Word, kinds, some_cases, some_rows, some_telling

EXAMPLES = r"""
>>> from drawntold.console import Console
>>> desk = Console()
>>> desk.execute("draw\nbar where !( sold < 3 ) across @shop up sum sold hue - side -\nword shop : north south\nnumber sold 0 30\nrow north 4\nrow south 5\nrow north 2")
''
>>> [desk.execute(line) for line in ("data", "change 2 north 6", "data", "moved", "areas", "warned", "back", "undo", "table")]
['- - north 4\n- - south 5', '', '- - north 10\n- - south 5', 'gone - - north 4\ncome - - north 10', '5000 2500', 'folded', 'no\nother 1 north 0', '', 'word shop : north south\nnumber sold 0 30\nrow north 4\nrow south 5\nrow north 2']
>>> [desk.execute(line) for line in ("warned", "same bar where !( sold < 4 ) across @shop up sum sold hue - side -", "plate 0 4 2")]
['dropped', 'no\nrow north 3', '|oooo\n|oooo\n+-|-|']
"""

ALL = "( # = # )"
COLUMNS_TEXT = "word shop : north south\nnumber day 1 9\nnumber sold -9 20"
ROWS_TEXT = "\nrow north 1 4\nrow south 1 5\nrow north 2 8"
ASKED = ("table", "telling", "picture", "data", "moved", "drawn", "hidden", "piles", "areas", "warned", "back")
# What a draw forgets, and what it does not.
FORGOTTEN = ("moved", "drawn")


def told(mark="bar", keep=ALL, across="@shop", up="sum sold", hue="-", side="-"):
    return f"{mark} where {keep} across {across} up {up} hue {hue} side {side}"


def desk_of(telling=told(), rows=ROWS_TEXT):
    """A console for which this is drawn."""
    desk = Console()
    desk.execute(f"draw\n{telling}\n{COLUMNS_TEXT}{rows}")
    return desk


def answers(desk):
    """What a console answers to all that it is asked, an error's name where it raises one."""
    found = []
    for command in ASKED + ("plate 0 9 5", "plate 1 9 5", "same " + told(), "same " + told(up="most sold")):
        try:
            found.append(desk.execute(command))
        except DrawError as error:
            found.append((type(error).__name__, kinds(list(vars(error).values()))))
    return found


def name_of(value):
    return "-" if value is None else str(value)


def entry_of(entry):
    return " ".join([name_of(part) for part in entry[:3]] + [fraction_text(entry[3])])


def row_of(head, row):
    return " ".join([head] + [str(value) for value in row])


def wanted(kept, command):
    """What a console answers to a question, worked out by the calls that the document names."""
    telling, table = kept.telling, kept.table
    if command in ("table", "telling", "picture"):
        return {"table": lambda: table_text(table), "telling": lambda: telling_text(table[0], telling),
                "picture": lambda: picture_text(picture(telling, table))}[command]()
    if command == "data":
        return "\n".join(entry_of(entry) for entry in data(telling, table))
    if command == "moved":
        gone, come = kept.moved()
        return "\n".join(["gone " + entry_of(entry) for entry in gone] + ["come " + entry_of(entry) for entry in come])
    if command == "drawn":
        return " ".join(str(k) for k in kept.drawn())
    if command == "hidden":
        return "\n".join(f"{panel} {mark}" for panel, mark in hidden(telling, table))
    if command == "piles":
        return "\n".join(
            " ".join([str(panel), fraction_text(x), fraction_text(y)] + [name_of(hue) for hue in hues])
            for panel, x, y, hues in piles(telling, table)
        )
    if command == "areas":
        return "\n".join(" ".join(fraction_text(area) for area in panel) for panel in areas(telling, table))
    if command == "warned":
        return " ".join(warned(telling, table))
    found = tells_back(table[0], telling)
    if found == ("yes",):
        return "yes"
    lines = ["no"] + [row_of(f"one {count}", row) for row, count in found[1]]
    return "\n".join(lines + [row_of(f"other {count}", row) for row, count in found[2]])


class ConsoleCase(Case):
    def unchanged(self, desk, error, command, **fields):
        """The command raises this error, and all is as it was."""
        before = answers(desk)
        self.raises(error, desk.execute, command, **fields)
        self.assertEqual(answers(desk), before)

    def does(self, desk, *commands):
        for command in commands:
            self.same(desk.execute(command), "", command)

    def answers_of(self, desk, **wanted_answers):
        for command, answer in wanted_answers.items():
            self.same(desk.execute(command), answer, command)


class CommandTests(ConsoleCase):
    def test_examples_of_the_document(self):
        self.examples(EXAMPLES, {})

    def test_draw(self):
        desk = Console()
        self.same(desk.execute(f"draw\n{told()}\n{COLUMNS_TEXT}{ROWS_TEXT}"), "")
        self.answers_of(desk, table=COLUMNS_TEXT + ROWS_TEXT, telling=told(), data="- - north 12\n- - south 5",
                        moved="", drawn="")
        self.does(desk, "remove 0", "draw\npoint where ( # = # ) across @only up count # hue - side -\nword only : x")
        self.answers_of(desk, table="word only : x", data="", moved="", drawn="", picture="point", warned="empty",
                        hidden="", piles="")
        self.unchanged(desk, Refused, "undo")
        self.unchanged(desk, Refused, "redo")
        self.same(desk.execute(command="data"), "")

    def test_edits(self):
        desk = desk_of()
        self.does(desk, "insert 0 south 9 20", "insert 4 north 1 -9", "insert 2 north 3 3")
        rows = "\nrow south 9 20\nrow north 1 4\nrow north 3 3\nrow south 1 5\nrow north 2 8\nrow north 1 -9"
        self.answers_of(desk, table=COLUMNS_TEXT + rows, data="- - north 6\n- - south 25",
                        moved="gone - - north 3\ncome - - north 6", drawn="0")
        self.does(desk, "remove 5", "remove 0", "change 1 south 3 3", "change 0 north 1 4")
        self.answers_of(desk, table=COLUMNS_TEXT + "\nrow north 1 4\nrow south 3 3\nrow south 1 5\nrow north 2 8",
                        moved="", drawn="", data="- - north 12\n- - south 8")
        self.does(desk, "retell " + told("line", across="day"))
        self.answers_of(desk, telling=told("line", across="day"), data="- - 1 9\n- - 2 8\n- - 3 3", drawn="0",
                        moved="gone - - north 12\ngone - - south 8\ncome - - 1 9\ncome - - 2 8\ncome - - 3 3")
        self.does(desk, "undo", "undo", "undo")
        self.answers_of(desk, telling=told(), data="- - north 15\n- - south 5",
                        moved="gone - - north 12\ngone - - south 8\ncome - - north 15\ncome - - south 5")
        self.does(desk, "redo", "redo", "redo")
        self.answers_of(desk, telling=told("line", across="day"))
        self.unchanged(desk, Refused, "redo")
        self.does(desk, *["undo"] * 8)
        self.answers_of(desk, table=COLUMNS_TEXT + ROWS_TEXT)
        self.unchanged(desk, Refused, "undo")

    def test_the_41st_row(self):
        desk = desk_of(rows="\nrow north 1 4" * 39)
        self.does(desk, "insert 39 south 1 1")
        self.unchanged(desk, TooMany, "insert 0 south 1 1", count=40)
        self.unchanged(desk, InvalidPart, "insert 41 south 1 1")
        self.unchanged(desk, InvalidPart, "insert 0 west 1 1")

    def test_questions_of_data(self):
        desk = desk_of(told("point", across="( -2 * day )", up="mean sold", hue="@shop", side="@shop"))
        self.answers_of(desk, data="north north -4 8\nnorth north -2 4\nsouth south -2 5", drawn="", moved="")
        self.does(desk, "change 1 south 1 6")
        self.answers_of(desk, moved="gone south south -2 5\ncome south south -2 6", drawn="1")
        self.does(desk, "change 0 north 2 5", "insert 0 north 2 6")
        self.answers_of(desk, data="north north -4 19/3\nsouth south -2 6", drawn="0 1",
                        moved="gone north north -4 6.5\ncome north north -4 19/3")

    def test_pictures_and_plates(self):
        desk = desk_of()
        self.answers_of(desk, picture=(
            "bar\npanel -\nacross word : north south\nup number 0 12 : 0 5 10\n"
            "mark 0 0 50 100 -\nmark 50 0 100 125/3 -"
        ))
        self.same(desk.execute("plate 0 4 3"), "|oo..\n|oooo\n|oooo\n+-|-|")
        self.same(desk.execute("plate 0 1 1"), "|o\n+|")
        desk = desk_of(told("point", hue="@shop", side="@shop"))
        self.same(desk.execute("plate 1 3 2"), "|...\n|..b\n+|-|")
        self.same(desk.execute("plate 1 2 2"), "|..\n|.b\n+||")
        for command in ("plate 2 3 2", "plate 9999 3 2", "plate 2 0 0"):
            self.unchanged(desk, InvalidPart, command)
        for command in ("plate 0 0 2", "plate 0 121 2", "plate 1 2 0", "plate 1 2 61", "plate 0 9999 9999"):
            self.unchanged(desk, InvalidCount, command)

    def test_what_is_seen(self):
        rows = "\nrow north 1 4\nrow north 2 4\nrow south 1 4\nrow north 3 9\nrow south 9 4\nrow north 9 4"
        desk = desk_of(told("point", up="each sold", hue="@shop"), rows)
        self.answers_of(desk, hidden="0 0\n0 1\n0 4", warned="piled cut",
                        piles="0 25 0 north north north\n0 75 0 south south")
        self.unchanged(desk, Refused, "areas")
        desk = desk_of(told(side="@shop", across="day"), rows)
        self.answers_of(desk, areas="5000/9 5000/9 1250 5000/9\n5000/9 5000/9", hidden="", piles="", warned="")
        desk = desk_of(told(keep="( sold < 0 )", up="count #"), rows)
        self.answers_of(desk, areas="", hidden="", piles="", warned="empty dropped", data="", picture="bar")

    def test_same(self):
        desk = desk_of()
        for telling, answer in (
            (told(), "yes"), (told(up="sum ( 1 * sold )"), "yes"), (told("line"), "no"),
            (told(up="least sold"), "no\nrow north 1 -9\nrow north 1 -9"),
            (told(across="day"), "no\nrow north 1 -9"), (told(keep="( day < 9 )"), "no\nrow north 9 -9"),
        ):
            self.same(desk.execute("same " + telling), answer)
        self.answers_of(desk, telling=told(), moved="")

    def test_back(self):
        columns = "\nword shop : north south\nnumber n -1 1"
        for telling, answer in (
            (told("point", up="each n"), "yes"), (told(keep="( n < 0 )", up="count #"), "no\nother 1 north 0"),
            (told(up="most n"), "no\none 1 north -1\nother 2 north -1"),
            (told(across="n", up="sum #"), "no\none 1 north -1\nother 1 south -1"),
            (told(up="sum ( n + 3 )"), "no\none 3 north -1\nother 2 north 0"),
            (told(up="sum ( ( 2 * n ) + -1 )"), "no\none 1 north -1\nother 3 north 0"),
            (told(up="sum ( ( 2 * n ) + 1 )"), "no\none 1 north -1\nother 2 north -1\nother 1 north 0"),
            (told(across="n", up="sum #", side="@shop"), "yes"),
        ):
            desk = Console()
            desk.execute(f"draw\n{telling}{columns}")
            self.same(desk.execute("back"), answer, telling)

    def test_counts_of_any_length(self):
        desk = Console()
        great = "( 20 * ( 20 * ( 20 * ( 20 * ( 20 * 997 ) ) ) ) )"
        desk.execute(f"draw\n{told(across='#', up=f'sum ( ( n + 1 ) + ( {great} + n ) )')}\nnumber n 0 1")
        self.same(desk.execute("back"), "no\none 3190400003 0\nother 3190400001 1")


class ErrorTests(ConsoleCase):
    def test_signs_at_which_no_command_goes_on(self):
        for command, index in (
            ("", 0), (" ", 0), ("\n", 0), ("x", 0), ("d", 1), ("dr", 2), ("dra", 3), ("draw", 4), ("drawx", 4),
            ("draw ", 4),
            ("drawn ", 5), ("drawn\n", 5), ("da", 2), ("dat", 3), ("dx", 1), ("data ", 4), ("data data", 4),
            ("Data", 0),
            ("insert", 6), ("insert ", 7), ("insert -1 a", 7), ("insert 01 a", 8), ("insert 12345 a", 11),
            ("insert 1", 8),
            ("insert 1 ", 9), ("insert 1  a", 9), ("insert 1 a ", 11), ("insert 1 a\n", 10), ("insert 1 A", 9),
            ("insert a 1", 7), ("insert 1 -0", 10), ("insert 1 #", 9), ("change 0", 8), ("change 00 a", 8), ("ins", 3),
            ("remove", 6), ("remove ", 7), ("remove 1 ", 8), ("remove 1 1", 8), ("remove a", 7), ("remove 12345", 11),
            ("rem", 3), ("re", 2), ("rex", 2), ("red", 3), ("redo ", 4), ("ret", 3), ("retell", 6), ("retell ", 7),
            ("retell x", 7), ("retell bar where", 16), (f"retell {told()}\n", 7 + len(told())), ("undo\n", 4),
            ("undo 1", 4),
            ("t", 1), ("ta", 2), ("te", 2), ("tables", 5), ("telling bar", 7), ("p", 1), ("pi", 2), ("pic", 3),
            ("pil", 3),
            ("pl", 2), ("plate", 5), ("plate 0", 7), ("plate 0 1", 9), ("plate 0 1 ", 10), ("plate 0 1 1 ", 11),
            ("plate 0 1 1 1", 11), ("plate -1 1 1", 6), ("plate 0 01 1", 9), ("same", 4), ("same ", 5), ("same bar", 8),
            (f"same {told()} ", 5 + len(told())), ("back yes", 4), ("warned.", 6), ("moved\n", 5), ("areas0", 5),
            ("h", 1),
            (f"draw\n{told()}", 5 + len(told())), (f"draw\n{told()}\n", 6 + len(told())), ("draw\n", 5),
            ("draw\nbar", 8),
            (f"draw\n{told()}\nrow a", 6 + len(told())), (f"draw\n{told()}\nword a :", 14 + len(told())),
            (f"draw\n{told()}\nword a : b\nrow", 20 + len(told())), (f"draw\n{told()}\nword a : b\n", 17 + len(told())),
            (f"draw {told()}", 4), ("redraw", 3),
        ):
            self.raises(InvalidCommand, Console().execute, command, index=index)
            self.same(grammar.fault(grammar.COMMAND, command), index, command)

    def test_values_that_are_no_strings(self):
        desk = desk_of()
        for value in ODD_VALUES + (Word("data"), ["data"], ("data",), [Word("draw")]):
            index = grammar.fault(grammar.COMMAND, value) if type(value) == str else 0
            self.raises(InvalidCommand, desk.execute, value, index=index)
            self.raises(InvalidCommand, Console().execute, value, index=index)

    def test_commands_that_are_none_change_nothing(self):
        desk = desk_of()
        desk.execute("remove 0")
        for command in ("remove 0 ", "undo\n", "insert 0 north 1 1 ", "retell " + told("line") + " ", "redo1", "draw",
                        f"draw\n{told('line')}\n{COLUMNS_TEXT}\n"):
            with self.assertRaises(InvalidCommand):
                desk.execute(command)
        self.answers_of(desk, telling=told(), table=COLUMNS_TEXT + ROWS_TEXT[14:],
                        moved="gone - - north 12\ncome - - north 8")

    def test_refused_without_a_drawing(self):
        desk = Console()
        for command in ASKED + (
            "undo", "redo", "remove 0", "remove 9999", "insert 0 a", "change 0 a 1", "plate 0 0 0", "plate 0 4 4",
            "retell " + told(), "same " + told(), "retell " + told(across="@x"), "same " + told(keep="( 1 & 2 )"),
        ):
            self.raises(Refused, desk.execute, command)
            self.raises(InvalidCommand, desk.execute, command + " ", index=len(command)
                        + (1 if command.startswith(("insert", "change")) else 0))
        for command, error in (
            (f"draw\n{told()}\nword shop : a a", InvalidColumns), (f"draw\n{told()}\nword x : a", Unknown),
        ):
            self.raises(error, desk.execute, command)
            self.raises(Refused, desk.execute, "data")

    def test_errors_of_draw_in_their_sequence(self):
        desk = desk_of()
        desk.execute("remove 0")
        bad, good = told(across="@x", up="sum city", hue="@sold"), "number n 0 1"
        for telling, table, error, fields in (
            (bad + " ", "", InvalidCommand, {"index": 5 + len(bad)}),
            (bad, good + "\nrow 2 ", InvalidCommand, {"index": 25 + len(bad)}),
            (bad, "number n 1 0\nrow a", InvalidColumns, {}), (told(across="#"), "word a : b b", InvalidColumns, {}),
            (bad, good + "\nrow 1\nrow 2", InvalidTable, {"index": 1}),
            (bad, good + "\nrow 0" * 41, InvalidTable, {"index": 40}),
            (bad, good + "\nrow 1", Unknown, {"word": "x"}), (bad, good, Unknown, {"word": "x"}),
            (told(across="n", up="mean x"), good, Unknown, {"word": "x"}),
            (told("bar", "n", "n", "each n", "@n", "@n"), good, InvalidTelling, {"place": (1,)}),
            (told("bar", ALL, "n", "each n", "@n", "@n"), good, InvalidTelling, {"place": (3,)}),
            (told("bar", ALL, "n", "sum n", "-", "@n"), good, InvalidTelling, {"place": (5,)}),
        ):
            self.unchanged(desk, error, f"draw\n{telling}\n{table}", **fields)
        self.does(desk, "undo")

    def test_errors_of_tellings_and_of_calls(self):
        desk = desk_of()
        desk.execute("remove 0")
        for head in ("retell ", "same "):
            for telling, error, fields in (
                (told(across="@x", up="sum city"), Unknown, {"word": "x"}),
                (told(across="@day"), InvalidTelling, {"place": (2,)}),
                (told(keep="( 1 & 2 )", hue="@day"), InvalidTelling, {"place": (1,)}),
                (told("line", up="each sold"), InvalidTelling, {"place": (3,)}),
                (told(keep="( shop is east )"), InvalidTelling, {"place": (1,)}),
                (told(keep="( shop is east )", side="@abc"), Unknown, {"word": "abc"}),
            ):
                self.unchanged(desk, error, head + telling, **fields)
        for command, error in (
            ("insert 3 north 1 1", InvalidPart), ("insert 0 north 1", InvalidPart), ("insert 0 1 north 1", InvalidPart),
            ("insert 0 north 0 1", InvalidPart), ("insert 0 north 1 1 1", InvalidPart),
            ("change 2 north 1 1", InvalidPart),
            ("change 0 north 1 31", InvalidPart), ("remove 2", InvalidPart), ("remove 9999", InvalidPart),
            ("redo", Refused),
        ):
            self.unchanged(desk, error, command)
        self.does(desk, "undo")
        self.unchanged(desk, Refused, "undo")

    def test_bent_commands(self):
        chance = random.Random(90)
        counts = {True: 0, False: 0}
        for telling, (columns, rows) in some_cases(91, 250):
            text, table = telling_text(columns, telling), table_text((columns, rows[:5]))
            for command in (
                f"draw\n{text}\n{table}", f"same {text}", f"retell {text}", "insert 0 a 1 b -3", "change 17 x 0",
                "remove 1234", "plate 0 10 5", chance.choice(ASKED + ("undo", "redo")),
            ):
                bent = grammar.bent(chance, command)
                index = grammar.fault(grammar.COMMAND, bent)
                counts[index is None] += 1
                try:
                    Console().execute(bent)
                except InvalidCommand as error:
                    self.same(error.index, index, bent)
                except DrawError:
                    self.assertIsNone(index, bent)
                else:
                    self.assertIsNone(index, bent)
        self.assertTrue(counts[True] > 200 and counts[False] > 800, counts)

    def test_each_start_of_a_command(self):
        for command in (
            f"draw\n{told()}\n{COLUMNS_TEXT}{ROWS_TEXT}", "same " + told("point", hue="@shop"), "insert 10 a -1",
        ):
            for k in range(len(command)):
                index = grammar.fault(grammar.COMMAND, command[:k])
                if index is not None:
                    self.same(index, k)
                    self.raises(InvalidCommand, Console().execute, command[:k], index=k)


class WholeProgramTests(ConsoleCase):
    def act(self, chance, columns, kept):
        """A command for a Kept's edit, and the call that does the same, with its arguments."""
        name = chance.choice(("insert", "insert", "remove", "change", "retell", "undo", "undo", "redo"))
        index = chance.randint(0, len(kept.table[1]))
        row, = some_rows(chance, columns, 1)
        telling = some_telling(chance, columns)
        return {
            "insert": (row_of(f"insert {index}", row), kept.put_in, (index, row)),
            "change": (row_of(f"change {index}", row), kept.change, (index, row)),
            "remove": (f"remove {index}", kept.take_out, (index,)),
            "retell": ("retell " + telling_text(columns, telling), kept.retell, (telling,)),
            "undo": ("undo", kept.undo, ()), "redo": ("redo", kept.redo, ()),
        }[name]

    def asks(self, desk, kept, chance):
        """The console answers as the Kept does."""
        for command in ASKED:
            if command == "areas" and kept.telling[0] != "bar":
                self.raises(Refused, desk.execute, command)
            else:
                self.same(desk.execute(command), wanted(kept, command), command)
        other = some_telling(chance, kept.table[0])
        found = alike(kept.table[0], kept.telling, other)
        answer = "yes" if found == ("yes",) else "\n".join(["no"] + [row_of("row", row) for row in found[1]])
        self.same(desk.execute("same " + telling_text(kept.table[0], other)), answer)
        for panel in range(len(kept.picture[1])):
            self.same(desk.execute(f"plate {panel} 8 4"), "\n".join(plate(kept.picture, panel, 8, 4)))

    def test_a_console_answers_as_a_kept_of_its_telling_and_table(self):
        chance = random.Random(92)
        for telling, (columns, rows) in some_cases(93, 25):
            table = (columns, rows[:20])
            desk, kept = Console(), Kept(table, telling)
            self.does(desk, f"draw\n{telling_text(columns, telling)}\n{table_text(table)}")
            self.asks(desk, kept, chance)
            for _ in range(12):
                command, call, arguments = self.act(chance, columns, kept)
                try:
                    call(*arguments)
                except DrawError as error:
                    self.raises(type(error), desk.execute, command, **vars(error))
                else:
                    self.same(desk.execute(command), "")
            self.asks(desk, kept, chance)
            again = Console()
            self.does(again, f"draw\n{desk.execute('telling')}\n{desk.execute('table')}")
            for command in ASKED:
                if command not in FORGOTTEN and (command != "areas" or kept.telling[0] == "bar"):
                    self.same(again.execute(command), desk.execute(command), command)
            self.answers_of(again, moved="", drawn="")
            self.raises(Refused, again.execute, "undo")
            self.raises(Refused, again.execute, "redo")

    def test_two_consoles_that_are_told_the_same_answer_the_same(self):
        chance = random.Random(94)
        for telling, (columns, rows) in some_cases(95, 20):
            table = (columns, rows[:20])
            one, other = Console(), Console()
            kept = Kept(table, telling)
            commands = [f"draw\n{telling_text(columns, telling)}\n{table_text(table)}"]
            commands += [self.act(chance, columns, kept)[0] for _ in range(15)]
            # Another console, told other things between, changes neither.
            third = Console()
            for command in commands:
                found = []
                for desk in (one, third, other):
                    try:
                        found.append(desk.execute(command if desk is not third else commands[0]))
                    except DrawError as error:
                        found.append((type(error), kinds(list(vars(error).values()))))
                self.assertEqual(found[0], found[2])
            self.assertEqual(answers(one), answers(other))

    def test_long_commands_end_soon(self):
        desk = desk_of()
        for command in (
            "insert 0" + " 1" * 9900, "same " + told(keep="( # & " * 3000),
            "draw\n" + told() + "\n" + "number a 0 1\n" * 1500,
        ):
            with self.assertRaises(DrawError):
                self.quick(desk.execute, command)
        columns = "\n".join(f"number {name} 0 9" for name in "abcd")
        desk.execute(f"draw\n{told(across='a', up='sum ( d + 1 )')}\n{columns}")
        self.same(self.quick(desk.execute, "back"), "no\none 2 0 0 0 0\nother 1 0 0 0 1")
        self.same(self.quick(desk.execute, "same " + told(across="a", up="most ( d + 1 )")),
                  "no\nrow 0 0 0 0\nrow 0 0 0 0")


if __name__ == "__main__":
    unittest.main()
