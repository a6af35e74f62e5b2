"""Texts of columns, tables, tellings and pictures, and what is told from them."""

from drawntold.errors import Unknown
from drawntold.fractions import fraction_text
from drawntold.reader import Reader
from drawntold.readings import SIGNS, read_columns, read_picture, read_table, read_telling
from drawntold.tables import check_columns, check_table
from drawntold.tellings import check_telling, columns_written, rewritten


def columns_told(text):
    """The columns that a text tells."""
    reader = Reader(text)
    columns = read_columns(reader)
    reader.finish()
    check_columns(columns)
    return columns


def columns_text(columns):
    """The text of columns, a line for each of them."""
    check_columns(columns)
    return "\n".join([_column_text(name, kind) for name, kind in columns])


def table_told(text):
    """The table that a text tells."""
    reader = Reader(text)
    table = read_table(reader)
    reader.finish()
    check_read_table(table)
    return table


def table_text(table):
    """The text of a table: its columns, then a line for each row."""
    check_table(table)
    columns, rows = table
    return "\n".join([columns_text(columns)] + [row_text("row", row) for row in rows])


def telling_told(columns, text):
    """The telling of the columns that a text tells."""
    check_columns(columns)
    reader = Reader(text)
    telling = read_telling(reader)
    reader.finish()
    return named_telling(columns, telling)


def telling_text(columns, telling):
    """The text of a telling of the columns."""
    check_telling(columns, telling)
    names = [name for name, _ in columns]
    mark, keep, across, (word, amount), hue, side = telling
    return " ".join([
        mark, "where", _formula_text(names, keep), "across", _formula_text(names, across),
        "up", word, _formula_text(names, amount),
        "hue", _pane_text(names, hue), "side", _pane_text(names, side),
    ])


def picture_told(text):
    """The picture that a text tells, whether there is such a picture or not."""
    reader = Reader(text)
    picture = read_picture(reader)
    reader.finish()
    return picture


def picture_text(picture):
    """The text of a picture."""
    mark, panels = picture
    lines = [mark]
    for side, (across, up), marks in panels:
        lines.append("panel " + name_text(side))
        lines.append("across " + _axis_text(across))
        lines.append("up " + _axis_text(up))
        lines.extend(["mark " + _mark_text(mark, one) for one in marks])
    return "\n".join(lines)


def check_read_table(table):
    """Raises InvalidColumns, then InvalidTable, unless what was read of a text is a table."""
    check_columns(table[0])
    check_table(table)


def named_telling(columns, telling):
    """The telling that was read with names of right columns; Unknown or InvalidTelling if none."""
    names = [name for name, _ in columns]
    for name in columns_written(telling):
        if name not in names:
            raise Unknown(name)
    told = rewritten(telling, names)
    check_telling(columns, told)
    return told


def row_text(head, row):
    """A line of a row behind what stands ahead of it."""
    return " ".join([head] + [str(value) for value in row])


def name_text(name):
    """A word that is a side or a hue, or None."""
    return "-" if name is None else name


def numbers_text(numbers):
    """Fractions with a space between two."""
    return " ".join([fraction_text(number) for number in numbers])


def _column_text(name, kind):
    if kind[0] == "word":
        return " ".join(["word", name, ":"] + list(kind[1]))
    _, low, high = kind
    return f"number {name} {low} {high}"


def _formula_text(names, formula):
    """The text of a formula or a key, with the names of the columns."""
    word = formula[0]
    if word == "one":
        return "#"
    if word == "number":
        return str(formula[1])
    if word == "of":
        return names[formula[1]]
    if word == "word":
        return "@" + names[formula[1]]
    if word == "not":
        return "!" + _formula_text(names, formula[1])
    return "( " + _text_of_both(names, formula) + " )"


def _text_of_both(names, formula):
    """What stands in brackets in the text of a formula."""
    word, first, second = formula
    if word == "is":
        return f"{names[first]} is {second}"
    if word == "times":
        return f"{first} * " + _formula_text(names, second)
    if word == "bin":
        return _formula_text(names, first) + f" bin {second}"
    sign = [key for key in SIGNS if SIGNS[key] == word][0]
    return _formula_text(names, first) + f" {sign} " + _formula_text(names, second)


def _pane_text(names, key):
    return "-" if key is None else _formula_text(names, key)


def _axis_text(axis):
    if axis[0] == "word":
        return " ".join(["word", ":"] + list(axis[1]))
    _, low, high, values = axis
    return "number " + numbers_text((low, high)) + " : " + numbers_text(values)


def _mark_text(mark, one):
    if mark != "line":
        return numbers_text(one[:-1]) + " " + name_text(one[-1])
    hue, points = one
    return name_text(hue) + " : " + " , ".join([numbers_text(point) for point in points])
