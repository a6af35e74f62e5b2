"""The forms of texts and commands as the document tells them, and where a text leaves them.

A form is what may stand behind a text read so far; `behind` is the form behind one more sign. That
no form is left tells the first sign at which no text goes on, whatever it is that reads the text.
"""

from drawntold.errors import InvalidText
from drawntold.fractions import fraction_told

LETTERS = "abcdefghijklmnopqrstuvwxyz"
DIGITS = "0123456789"


class Nothing:
    """No text at all."""

    def ends(self):
        return False

    def behind(self, sign):
        return self


class End(Nothing):
    """The empty text."""

    def ends(self):
        return True

    def behind(self, sign):
        return NOTHING


NOTHING = Nothing()
END = End()


class Piece(Nothing):
    """One text."""

    def __init__(self, text):
        self.text = text

    def behind(self, sign):
        if self.text[0] != sign:
            return NOTHING
        return Piece(self.text[1:]) if len(self.text) > 1 else END


class Some(Nothing):
    """One sign of some to so many of them."""

    def __init__(self, signs, most, may_end=False):
        self.signs, self.most, self.may_end = signs, most, may_end

    def ends(self):
        return self.may_end

    def behind(self, sign):
        if sign not in self.signs:
            return NOTHING
        return Some(self.signs, self.most - 1, True) if self.most > 1 else END


class Number(Nothing):
    """The text of a fraction, behind some signs of it."""

    def __init__(self, run=""):
        self.run = run

    def ends(self):
        return self.fault() is None

    def fault(self):
        try:
            fraction_told(self.run)
        except InvalidText as error:
            return error.index
        return None

    def behind(self, sign):
        if sign not in "0123456789-./":
            return NOTHING
        after = Number(self.run + sign)
        return after if after.fault() in (None, len(after.run)) else NOTHING


class Both(Nothing):
    def __init__(self, first, rest):
        self.first, self.rest = first, rest

    def ends(self):
        return self.first.ends() and self.rest.ends()

    def behind(self, sign):
        after = seq(self.first.behind(sign), self.rest)
        return either(after, self.rest.behind(sign)) if self.first.ends() else after


class Either(Nothing):
    def __init__(self, parts):
        self.parts = parts

    def ends(self):
        return any(part.ends() for part in self.parts)

    def behind(self, sign):
        return either(*[part.behind(sign) for part in self.parts])


class Later(Nothing):
    """A form that is made only when it is asked for, since it may stand in itself."""

    def __init__(self, make, *arguments):
        self.make, self.arguments = make, arguments

    def ends(self):
        return self.make(*self.arguments).ends()

    def behind(self, sign):
        return self.make(*self.arguments).behind(sign)


def seq(*parts):
    """One form behind the other; a string is the text itself."""
    form = END
    for part in reversed(parts):
        part = Piece(part) if isinstance(part, str) else part
        if part is NOTHING or form is NOTHING:
            return NOTHING
        form = form if part is END else part if form is END else Both(part, form)
    return form


def either(*parts):
    """One form or another one; a string is the text itself."""
    found = []
    for part in parts:
        part = Piece(part) if isinstance(part, str) else part
        found.extend(part.parts if isinstance(part, Either) else [part] if part is not NOTHING else [])
    return NOTHING if not found else found[0] if len(found) == 1 else Either(found)


def many(form, between):
    """One or more of a form, with this between two."""
    return seq(form, Later(lambda: either(END, seq(between, Later(many, form, between)))))


WORD = Some(LETTERS, 8)
COUNT = either("0", seq(Some("123456789", 1), either(END, Some(DIGITS, 3))))
INT = either(COUNT, seq("-", Some("123456789", 1), either(END, Some(DIGITS, 3))))
MARK = either("point", "bar", "line")
COLUMN = either(seq("number ", WORD, " ", INT, " ", INT), seq("word ", WORD, " : ", many(WORD, " ")))
COLUMNS = many(COLUMN, "\n")
VALUES = many(either(INT, WORD), " ")
TABLE = seq(COLUMNS, either(END, seq("\n", many(seq("row ", VALUES), "\n"))))


def formula(opened):
    """A formula with so many of ( and ! open around it."""
    parts = [INT, "#", WORD]
    if opened < 30:
        parts.append(seq("!", Later(formula, opened + 1)))
        parts.append(seq("( ", Later(inside, opened + 1), " )"))
    return either(*parts)


def inside(opened):
    within = Later(formula, opened)
    ahead = seq(either(*"+<=&|"), " ", within)
    return either(
        seq(formula(opened), " ", either(ahead, seq("bin ", INT))),
        seq(INT, " * ", within), seq(WORD, " is ", WORD),
    )


FORMULA = Later(formula, 0)
PANE = either("-", seq("@", WORD))
MEASURE = either("each", "count", "sum", "least", "most", "mean")
TELLING = seq(
    MARK, " where ", FORMULA, " across ", either(seq("@", WORD), FORMULA), " up ", MEASURE, " ", FORMULA,
    " hue ", PANE, " side ", PANE,
)

NUMBER = Number()
NAME = either("-", WORD)
AXIS = either(
    seq("number ", NUMBER, " ", NUMBER, " : ", many(NUMBER, " ")), seq("word : ", many(WORD, " ")),
)
MARKS = {
    "point": seq("mark ", NUMBER, " ", NUMBER, " ", NAME),
    "bar": seq("mark ", *[NUMBER, " "] * 4, NAME),
    "line": seq("mark ", NAME, " : ", many(seq(NUMBER, " ", NUMBER), " , ")),
}


def panels(mark):
    panel = seq("panel ", NAME, "\nacross ", AXIS, "\nup ", AXIS, either(END, seq("\n", many(MARKS[mark], "\n"))))
    return either(END, seq("\n", many(panel, "\n")))


PICTURE = either(*[seq(mark, panels(mark)) for mark in MARKS])
COMMAND = either(
    seq("draw\n", TELLING, "\n", TABLE), seq("insert ", COUNT, " ", VALUES), seq("change ", COUNT, " ", VALUES),
    seq("remove ", COUNT), seq("retell ", TELLING), seq("same ", TELLING),
    seq("plate ", COUNT, " ", COUNT, " ", COUNT), "undo", "redo", "table", "telling", "picture", "data", "moved",
    "drawn", "hidden", "piles", "areas", "warned", "back",
)


def fault(form, text):
    """The index of the first sign at which no text of the form goes on, the length of one that
    ends too early, None of one that is of the form."""
    for index, sign in enumerate(text):
        form = form.behind(sign)
        if form is NOTHING:
            return index
    return None if form.ends() else len(text)


def bent(chance, text):
    """A text with some change of a sign or of a line."""
    kind = chance.randrange(8)
    at = chance.randrange(len(text) + 1)
    sign = chance.choice(" \n:-.,/()!@#+*<=&|019azAo%" + text)
    if kind == 0:
        return text[:at]
    if kind == 1:
        return text[:at] + text[at + 1:]
    if kind == 2:
        return text[:at] + sign + text[at:]
    if kind == 3:
        return text[:at] + sign + text[at + 1:]
    if kind == 4:
        return text[:at] + text[at + 1:at + 2] + text[at:at + 1] + text[at + 2:]
    lines = text.split("\n")
    line = chance.randrange(len(lines))
    if kind == 5:
        lines[line:line + 1] = []
    elif kind == 6:
        lines.insert(chance.randrange(len(lines) + 1), lines[line])
    else:
        pieces = lines[line].split(" ")
        piece = chance.randrange(len(pieces))
        if chance.random() < 0.5:
            del pieces[piece]
        else:
            pieces.insert(chance.randrange(len(pieces) + 1), pieces[piece])
        lines[line] = " ".join(pieces)
    return "\n".join(lines)
