"""The console: commands as texts, and their answers as texts."""

from drawntold.back import tells_back
from drawntold.errors import InvalidCommand, InvalidText, Refused
from drawntold.fractions import fraction_text
from drawntold.kept import Kept
from drawntold.reader import Reader
from drawntold.readings import read_table, read_telling, read_values
from drawntold.sameness import alike
from drawntold.seen import areas, hidden, piles, warned
from drawntold.sheet import plate
from drawntold.texts import (
    check_read_table, name_text, named_telling, numbers_text, picture_text, row_text, table_text, telling_text,
)


def _insert(kept, arguments):
    index, row = arguments
    kept.put_in(index, row)
    return ""


def _change(kept, arguments):
    index, row = arguments
    kept.change(index, row)
    return ""


def _remove(kept, arguments):
    kept.take_out(arguments[0])
    return ""


def _retell(kept, arguments):
    kept.retell(named_telling(kept.table[0], arguments[0]))
    return ""


def _undo(kept, _):
    kept.undo()
    return ""


def _redo(kept, _):
    kept.redo()
    return ""


def _table(kept, _):
    return table_text(kept.table)


def _telling(kept, _):
    return telling_text(kept.table[0], kept.telling)


def _picture(kept, _):
    return picture_text(kept.picture)


def _data(kept, _):
    return "\n".join([_entry_text(entry) for entry in kept.data])


def _moved(kept, _):
    gone, come = kept.moved()
    lines = ["gone " + _entry_text(entry) for entry in gone]
    return "\n".join(lines + ["come " + _entry_text(entry) for entry in come])


def _drawn(kept, _):
    return _counts_text(kept.drawn())


def _plate(kept, arguments):
    panel, wide, tall = arguments
    return "\n".join(plate(kept.picture, panel, wide, tall))


def _hidden(kept, _):
    return "\n".join([_counts_text(indexes) for indexes in hidden(kept.telling, kept.table)])


def _piles(kept, _):
    lines = []
    for panel, x, y, hues in piles(kept.telling, kept.table):
        lines.append(" ".join([str(panel), numbers_text((x, y))] + [name_text(hue) for hue in hues]))
    return "\n".join(lines)


def _areas(kept, _):
    return "\n".join([numbers_text(panel) for panel in areas(kept.telling, kept.table)])


def _warned(kept, _):
    return " ".join(warned(kept.telling, kept.table))


def _same(kept, arguments):
    columns = kept.table[0]
    told = alike(columns, kept.telling, named_telling(columns, arguments[0]))
    if told == ("yes",):
        return "yes"
    return "\n".join(["no"] + [row_text("row", row) for row in told[1]])


def _back(kept, _):
    told = tells_back(kept.table[0], kept.telling)
    if told == ("yes",):
        return "yes"
    _, one, other = told
    lines = ["no"] + [row_text(f"one {count}", row) for row, count in one]
    return "\n".join(lines + [row_text(f"other {count}", row) for row, count in other])


# What each command but draw does with a Kept and with what is read behind its word.
ACTIONS = {
    "insert": _insert, "change": _change, "remove": _remove, "retell": _retell, "undo": _undo,
    "redo": _redo, "table": _table, "telling": _telling, "picture": _picture, "data": _data,
    "moved": _moved, "drawn": _drawn, "plate": _plate, "hidden": _hidden, "piles": _piles,
    "areas": _areas, "warned": _warned, "same": _same, "back": _back,
}


class Console:
    """What is drawn, edited and asked for by commands."""

    def __init__(self):
        self._kept = None

    def execute(self, command):
        """The answer to a command."""
        word, arguments = _command_told(command)
        if word == "draw":
            self._kept = _kept_anew(arguments)
            return ""
        if self._kept is None:
            raise Refused("nothing is drawn yet")
        action = ACTIONS[word]
        return action(self._kept, arguments)


def _kept_anew(arguments):
    telling, table = arguments
    check_read_table(table)
    return Kept(table, named_telling(table[0], telling))


def _command_told(command):
    """(word, arguments): a command's word and the tuple of what is read behind it."""
    words = ["draw"] + list(ACTIONS)
    try:
        reader = Reader(command)
        word = reader.chosen(words)
        arguments = _read_arguments(reader, word)
        reader.finish()
    except InvalidText as wrong:
        raise InvalidCommand(wrong.index)
    return (word, arguments)


def _read_arguments(reader, word):
    if word == "draw":
        reader.skip("\n")
        telling = read_telling(reader)
        reader.skip("\n")
        return (telling, read_table(reader))
    if word in ("retell", "same"):
        reader.skip(" ")
        return (read_telling(reader),)
    if word in ("insert", "change"):
        counts = _read_counts(reader, 1)
        reader.skip(" ")
        return counts + (read_values(reader),)
    if word == "remove":
        return _read_counts(reader, 1)
    if word == "plate":
        return _read_counts(reader, 3)
    return ()


def _read_counts(reader, many):
    """A tuple of so many integers, with a space ahead of each of them."""
    counts = []
    for _ in range(many):
        reader.skip(" ")
        counts.append(reader.read_count())
    return tuple(counts)


def _entry_text(entry):
    side, hue, across, up = entry
    return " ".join([name_text(side), name_text(hue), str(across), fraction_text(up)])


def _counts_text(counts):
    return " ".join([str(count) for count in counts])
