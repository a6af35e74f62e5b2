"""What is read of a text by its form alone: columns, tables, tellings, pictures.

In a telling that is read here each column is told by its name.
"""

from drawntold.tellings import MARKS

MEASURES = ("each", "count", "sum", "least", "most", "mean")
MOST_OPEN = 30
# Between two formulas: a sign, and the word ahead of the two in the tuple.
SIGNS = {"+": "add", "<": "below", "=": "same", "&": "and", "|": "or"}


def read_columns(reader):
    """Columns, a line for each of them."""
    columns = [_read_column(reader, reader.chosen(("number", "word")))]
    while reader.passes("\n"):
        columns.append(_read_column(reader, reader.chosen(("number", "word"))))
    return tuple(columns)


def read_table(reader):
    """A table: the lines of its columns, then a line for each row."""
    columns = [_read_column(reader, reader.chosen(("number", "word")))]
    rows = []
    while reader.passes("\n"):
        head = reader.chosen(("row",) if rows else ("number", "word", "row"))
        if head == "row":
            reader.skip(" ")
            rows.append(read_values(reader))
        else:
            columns.append(_read_column(reader, head))
    return (tuple(columns), tuple(rows))


def read_values(reader):
    """A tuple of one value or more, with a space between two."""
    values = [reader.read_value()]
    while reader.passes(" "):
        values.append(reader.read_value())
    return tuple(values)


def read_telling(reader):
    """A telling."""
    mark = reader.chosen(MARKS)
    reader.skip(" where ")
    keep = _read_formula(reader, 0)
    reader.skip(" across ")
    across = _read_key(reader)
    reader.skip(" up ")
    word = reader.chosen(MEASURES)
    reader.skip(" ")
    amount = _read_formula(reader, 0)
    reader.skip(" hue ")
    hue = _read_pane(reader)
    reader.skip(" side ")
    side = _read_pane(reader)
    return (mark, keep, across, (word, amount), hue, side)


def read_picture(reader):
    """A picture: the word of its mark, then the lines of each panel."""
    mark = reader.chosen(MARKS)
    panels = []
    while reader.passes("\n"):
        head = reader.chosen(("panel", "mark") if panels else ("panel",))
        reader.skip(" ")
        if head == "mark":
            panels[-1][2].append(_read_mark(reader, mark))
            continue
        side = _read_name_of_pane(reader)
        reader.skip("\nacross ")
        across = _read_axis(reader)
        reader.skip("\nup ")
        panels.append((side, (across, _read_axis(reader)), []))
    return (mark, tuple([(side, axes, tuple(marks)) for side, axes, marks in panels]))


def _read_column(reader, head):
    reader.skip(" ")
    name = reader.read_word()
    reader.skip(" ")
    if head == "word":
        reader.skip(": ")
        return (name, ("word", _read_words(reader)))
    low = reader.read_integer()
    reader.skip(" ")
    return (name, ("number", low, reader.read_integer()))


def _read_words(reader):
    words = [reader.read_word()]
    while reader.passes(" "):
        words.append(reader.read_word())
    return tuple(words)


def _read_formula(reader, opened):
    """A formula, with so many brackets and refusals open around it."""
    if opened < MOST_OPEN and reader.passes("!"):
        return ("not", _read_formula(reader, opened + 1))
    if opened < MOST_OPEN and reader.passes("("):
        reader.skip(" ")
        formula = _read_both(reader, opened + 1)
        reader.skip(" )")
        return formula
    if reader.passes("#"):
        return ("one",)
    if reader.is_before_letter():
        return ("of", reader.read_word())
    return ("number", reader.read_integer())


def _read_both(reader, opened):
    """What stands in brackets: a formula, a sign or word, and what may stand behind it."""
    first = _read_formula(reader, opened)
    reader.skip(" ")
    pieces = list(SIGNS) + ["bin"]
    # A formula that is an integer or a name may be the factor or the column instead.
    if first[0] == "number":
        pieces.append("*")
    if first[0] == "of":
        pieces.append("is")
    piece = reader.chosen(pieces)
    reader.skip(" ")
    if piece == "bin":
        return ("bin", first, reader.read_integer())
    if piece == "is":
        return ("is", first[1], reader.read_word())
    if piece == "*":
        return ("times", first[1], _read_formula(reader, opened))
    return (SIGNS[piece], first, _read_formula(reader, opened))


def _read_key(reader):
    if reader.is_before("@"):
        return _read_key_by_word(reader)
    return _read_formula(reader, 0)


def _read_pane(reader):
    return None if reader.passes("-") else _read_key_by_word(reader)


def _read_key_by_word(reader):
    reader.skip("@")
    return ("word", reader.read_word())


def _read_name_of_pane(reader):
    """A word that is a side or a hue, or None."""
    return None if reader.passes("-") else reader.read_word()


def _read_axis(reader):
    head = reader.chosen(("number", "word"))
    reader.skip(" ")
    if head == "word":
        reader.skip(": ")
        return ("word", _read_words(reader))
    low, high = _read_numbers(reader, 2)
    reader.skip(": ")
    values = [reader.read_number()]
    while reader.passes(" "):
        values.append(reader.read_number())
    return ("number", low, high, tuple(values))


def _read_numbers(reader, count):
    """A tuple of so many numbers, with a space behind each of them."""
    numbers = []
    for _ in range(count):
        numbers.append(reader.read_number())
        reader.skip(" ")
    return tuple(numbers)


def _read_mark(reader, mark):
    if mark == "line":
        return _read_line(reader)
    places = _read_numbers(reader, 2 if mark == "point" else 4)
    return places + (_read_name_of_pane(reader),)


def _read_line(reader):
    hue = _read_name_of_pane(reader)
    reader.skip(" : ")
    points = [_read_point(reader)]
    while reader.passes(" "):
        reader.skip(", ")
        points.append(_read_point(reader))
    return (hue, tuple(points))


def _read_point(reader):
    x = reader.read_number()
    reader.skip(" ")
    return (x, reader.read_number())
