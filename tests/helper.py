"""What the tests share: the document's examples, values of all kinds, calls that raise."""

import ast
import time
import unittest

import drawntold.errors


class Word(str):
    """A string that is none, being of a subclass."""


class Number(int):
    """An integer that is none, being of a subclass."""


class Row(tuple):
    """A tuple that is none, being of a subclass."""


def nested(depth):
    """A tuple that is nested so deep."""
    value = ()
    for _ in range(depth - 1):
        value = (value,)
    return value


def nested_list(depth):
    value = []
    for _ in range(depth - 1):
        value = [value]
    return value


# Values of every kind of [3], at the bounds of use too; none is a fraction, columns, a table,
# a row, a formula or an order.
ODD_VALUES = (
    None, True, False, 0, 1, -1, 10 ** 90 - 1, 1 - 10 ** 90,
    "", "a", "one", "number", "x" * 20000, "\n", "0",
    (), [], (1,), (None,), ((),), [()], [1, 2], (True, 1), (1, True), (1, 2, 3, 4),
    ("word",), ("number",), ("one", 1), ["one"], (["one"],), (("one",),),
    (0,) * 6000, [0] * 6000, ((),) * 6000, ("one",) * 6000,
    nested(40), nested_list(40), (nested_list(39), nested(39)),
)


# Columns, right and wrong, and values that are no rows of COLUMNS.
CITY = ("city", ("word", ("rome", "oslo")))
AGE = ("age", ("number", 8, 10))
COLUMNS = (CITY, AGE)
TEN = ("number", 0, 9)
SIX = ("word", ("f", "e", "d", "c", "b", "a"))
TEN_THOUSAND = tuple((name, TEN) for name in "abcd")
RIGHT_COLUMNS = (
    COLUMNS,
    (AGE,),
    (CITY,),
    (("a", ("number", -1000, -970)),),
    (("a", ("number", 970, 1000)),),
    (("a", ("number", 1000, 1000)),),
    (("a", ("number", -1000, -1000)),),
    (("a", ("number", 0, 0)), ("abcdefgh", ("word", ("abcdefgh",)))),
    (("a", SIX), ("b", SIX), ("c", SIX), ("d", SIX)),
    (("word", ("word", ("word", "number"))), ("number", ("number", -3, 3))),
    (("z", ("word", ("z", "y"))), ("y", ("word", ("y", "z")))),
    TEN_THOUSAND,
)
WRONG_KINDS = (
    ("number", 0, 31), ("number", 1, 0), ("number", -1001, -1000), ("number", -1001, -980),
    ("number", 1000, 1001), ("number", 980, 1001), ("number", -1, -2), ("number", -16, 15),
    ("number", False, 5), ("number", 0, True), ("number", 0), ("number", 0, 1, 2), ("number",),
    ("number", "0", "1"), ("number", None, 1), ("number", 0, (1,)), ["number", 0, 1],
    ("number", Number(0), 1), ("number", 0, Number(1)), (Word("number"), 0, 1),
    Row(("number", 0, 1)), ("numbers", 0, 1), ("words", ("a",)), ("word", "a", "b"),
    ("number", 0, 10 ** 89), ("number", -(10 ** 89), 0),
    ("word", ()), ("word", ("a", "b", "c", "d", "e", "f", "g")), ("word", ("a", "b", "a")),
    ("word", ("a", "a")), ("word", ["a", "b"]), ("word", "ab"), ("word", ("a",), ("b",)),
    ("word", ("abcdefghi",)), ("word", ("",)), ("word", ("A",)), ("word", ("a1",)),
    ("word", ("a b",)), ("word", ("a\n",)), ("word", ("a_",)), ("word", ("\u00e4",)),
    ("word", (1,)), ("word", (None,)), ("word", (True,)), ("word", (["a"],)), ("word", (("a",),)),
    ("word", (Word("a"),)), ("word", Row(("a",))), ("word", ("`",)), ("word", ("{",)), ("word",),
    ("word", None), ("word", ("a",) * 6000),
)
WRONG_NAMES = (
    "", "abcdefghi", "A", "aB", "a1", "1", "a b", "a-b", "a\n", "_", "@", "`", "{", "\u00e4",
    Word("a"), 1, None, True, ("a",), ["a"], "x" * 20000,
)


def wrong_columns():
    """Values that are no columns."""
    yield from ODD_VALUES
    for kind in ODD_VALUES + WRONG_KINDS:
        yield (("a", kind),)
        yield (("a", TEN), ("b", kind))
    for name in WRONG_NAMES:
        yield ((name, TEN),)
        yield (("a", TEN), (name, SIX))
    yield CITY
    yield [CITY, AGE]
    yield Row(COLUMNS)
    yield (list(CITY), AGE)
    yield (Row(CITY),)
    yield (CITY + (1,),)
    yield (("a",),)
    yield (("a", TEN), None)
    yield (CITY, CITY)
    yield (("a", TEN), ("b", SIX), ("a", SIX))
    yield tuple((name, ("number", 0, 1)) for name in "abcde")
    # 10,005 rows, the least number above 10,000 that columns come to.
    yield (("a", ("number", 1, 15)), ("b", ("number", 1, 23)), ("c", ("number", 1, 29)))
    yield TEN_THOUSAND[:3] + (("d", ("number", 0, 10)),)
    yield tuple((name, ("number", 0, 30)) for name in "abc")
    yield COLUMNS * 3000


WRONG_COLUMNS = tuple(wrong_columns())
WRONG_ROWS = ODD_VALUES + (
    ("rome",), (8,), ("rome", 8, 8), ("rome", 7), ("rome", 11), ("bonn", 8), ("city", 8),
    (8, "rome"), ("rome", "rome"), (8, 8), ("rome", True), ("rome", None), ("rome", "8"),
    (None, 8), (["rome"], 8), (("rome",), 8), ["rome", 8], ("rome", [8]), ("Rome", 8),
    (Word("rome"), 8), ("rome", Number(8)), Row(("rome", 8)), ("", 8), (0, 8), ("rome", (8,)),
)


def kinds(value):
    """A value told with the kinds of all its parts, so that 1 is unlike True."""
    if isinstance(value, (list, tuple)):
        return (type(value).__name__, [kinds(part) for part in value])
    return (type(value).__name__, value)


class Case(unittest.TestCase):
    """A test case that also looks at kinds, at fields of errors, at the time."""

    longMessage = True

    def same(self, told, wanted, why=None):
        """Told is the wanted value, equal in kind too."""
        self.assertEqual(kinds(told), kinds(wanted), why)

    def raises(self, error, call, *arguments, **fields):
        """The call raises exactly this error with these fields, and changes no argument."""
        before = [kinds(argument) for argument in arguments]
        try:
            told = call(*arguments)
        except drawntold.errors.DrawError as raised:
            shown = f"{call.__name__}{str(arguments)[:200]}"
            self.assertIs(type(raised), error, shown)
            for name, value in fields.items():
                self.same(getattr(raised, name), value, shown)
        else:
            self.fail(f"{call.__name__}{str(arguments)[:200]} told {str(told)[:200]}")
        self.assertEqual([kinds(argument) for argument in arguments], before)

    def quick(self, call, *arguments, seconds=5):
        """What the call tells; it ends within some seconds."""
        begun = time.monotonic()
        told = call(*arguments)
        self.assertLess(time.monotonic() - begun, seconds, call.__name__)
        return told

    def examples(self, text, names):
        """Runs lines as the document has them: `>>> ` and what is told below, or raised.

        What a line assigns is put into names."""
        lines = text.strip().splitlines()
        while lines:
            line = lines.pop(0)
            self.assertTrue(line.startswith(">>> "), line)
            source = line[4:]
            if isinstance(ast.parse(source).body[0], (ast.Assign, ast.ImportFrom)):
                exec(source, names)
                continue
            wanted = lines.pop(0)
            if wanted.startswith("raises "):
                error = eval(wanted[7:], dict(vars(drawntold.errors)))
                with self.assertRaises(type(error), msg=source) as caught:
                    eval(source, names)
                self.assertIs(type(caught.exception), type(error))
                self.same(vars(caught.exception), vars(error), source)
            else:
                self.same(eval(source, names), ast.literal_eval(wanted), source)
