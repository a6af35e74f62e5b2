"""What the tests share: the document's examples, values of all kinds, calls that raise."""

import ast
import random
import time
import unittest

import drawntold.errors


class Word(str):
    """A string that is none, being of a subclass."""


class Number(int):
    """An integer that is none, being of a subclass."""


class Row(tuple):
    """A tuple that is none, being of a subclass."""


def nested(depth):
    """A tuple that is nested so deep."""
    value = ()
    for _ in range(depth - 1):
        value = (value,)
    return value


def nested_list(depth):
    value = []
    for _ in range(depth - 1):
        value = [value]
    return value


# Values of every kind of [3], at the bounds of use too; none is a fraction, columns, a table,
# a row, a formula or an order.
ODD_VALUES = (
    None, True, False, 0, 1, -1, 10 ** 90 - 1, 1 - 10 ** 90,
    "", "a", "one", "number", "x" * 20000, "\n", "0",
    (), [], (1,), (None,), ((),), [()], [1, 2], (True, 1), (1, True), (1, 2, 3, 4),
    ("word",), ("number",), ("one", 1), ["one"], (["one"],), (("one",),),
    (0,) * 6000, [0] * 6000, ((),) * 6000, ("one",) * 6000,
    nested(40), nested_list(40), (nested_list(39), nested(39)),
)


# Columns, right and wrong, and values that are no rows of COLUMNS.
CITY = ("city", ("word", ("rome", "oslo")))
AGE = ("age", ("number", 8, 10))
COLUMNS = (CITY, AGE)
TEN = ("number", 0, 9)
SIX = ("word", ("f", "e", "d", "c", "b", "a"))
TEN_THOUSAND = tuple((name, TEN) for name in "abcd")
RIGHT_COLUMNS = (
    COLUMNS,
    (AGE,),
    (CITY,),
    (("a", ("number", -1000, -970)),),
    (("a", ("number", 970, 1000)),),
    (("a", ("number", 1000, 1000)),),
    (("a", ("number", -1000, -1000)),),
    (("a", ("number", 0, 0)), ("abcdefgh", ("word", ("abcdefgh",)))),
    (("a", SIX), ("b", SIX), ("c", SIX), ("d", SIX)),
    (("word", ("word", ("word", "number"))), ("number", ("number", -3, 3))),
    (("z", ("word", ("z", "y"))), ("y", ("word", ("y", "z")))),
    TEN_THOUSAND,
)
WRONG_KINDS = (
    ("number", 0, 31), ("number", 1, 0), ("number", -1001, -1000), ("number", -1001, -980),
    ("number", 1000, 1001), ("number", 980, 1001), ("number", -1, -2), ("number", -16, 15),
    ("number", False, 5), ("number", 0, True), ("number", 0), ("number", 0, 1, 2), ("number",),
    ("number", "0", "1"), ("number", None, 1), ("number", 0, (1,)), ["number", 0, 1],
    ("number", Number(0), 1), ("number", 0, Number(1)), (Word("number"), 0, 1),
    Row(("number", 0, 1)), ("numbers", 0, 1), ("words", ("a",)), ("word", "a", "b"),
    ("number", 0, 10 ** 89), ("number", -(10 ** 89), 0),
    ("word", ()), ("word", ("a", "b", "c", "d", "e", "f", "g")), ("word", ("a", "b", "a")),
    ("word", ("a", "a")), ("word", ["a", "b"]), ("word", "ab"), ("word", ("a",), ("b",)),
    ("word", ("abcdefghi",)), ("word", ("",)), ("word", ("A",)), ("word", ("a1",)),
    ("word", ("a b",)), ("word", ("a\n",)), ("word", ("a_",)), ("word", ("\u00e4",)),
    ("word", (1,)), ("word", (None,)), ("word", (True,)), ("word", (["a"],)), ("word", (("a",),)),
    ("word", (Word("a"),)), ("word", Row(("a",))), ("word", ("`",)), ("word", ("{",)), ("word",),
    ("word", None), ("word", ("a",) * 6000),
)
WRONG_NAMES = (
    "", "abcdefghi", "A", "aB", "a1", "1", "a b", "a-b", "a\n", "_", "@", "`", "{", "\u00e4",
    Word("a"), 1, None, True, ("a",), ["a"], "x" * 20000,
)


def wrong_columns():
    """Values that are no columns."""
    yield from ODD_VALUES
    for kind in ODD_VALUES + WRONG_KINDS:
        yield (("a", kind),)
        yield (("a", TEN), ("b", kind))
    for name in WRONG_NAMES:
        yield ((name, TEN),)
        yield (("a", TEN), (name, SIX))
    yield CITY
    yield [CITY, AGE]
    yield Row(COLUMNS)
    yield (list(CITY), AGE)
    yield (Row(CITY),)
    yield (CITY + (1,),)
    yield (("a",),)
    yield (("a", TEN), None)
    yield (CITY, CITY)
    yield (("a", TEN), ("b", SIX), ("a", SIX))
    yield tuple((name, ("number", 0, 1)) for name in "abcde")
    # 10,005 rows, the least number above 10,000 that columns come to.
    yield (("a", ("number", 1, 15)), ("b", ("number", 1, 23)), ("c", ("number", 1, 29)))
    yield TEN_THOUSAND[:3] + (("d", ("number", 0, 10)),)
    yield tuple((name, ("number", 0, 30)) for name in "abc")
    yield COLUMNS * 3000


WRONG_COLUMNS = tuple(wrong_columns())
WRONG_ROWS = ODD_VALUES + (
    ("rome",), (8,), ("rome", 8, 8), ("rome", 7), ("rome", 11), ("bonn", 8), ("city", 8),
    (8, "rome"), ("rome", "rome"), (8, 8), ("rome", True), ("rome", None), ("rome", "8"),
    (None, 8), (["rome"], 8), (("rome",), 8), ["rome", 8], ("rome", [8]), ("Rome", 8),
    (Word("rome"), 8), ("rome", Number(8)), Row(("rome", 8)), ("", 8), (0, 8), ("rome", (8,)),
)


def kinds(value):
    """A value told with the kinds of all its parts, so that 1 is unlike True."""
    if isinstance(value, (list, tuple)):
        return (type(value).__name__, [kinds(part) for part in value])
    return (type(value).__name__, value)


# Formulas, right and wrong, of these columns.
FORMULA_COLUMNS = (
    ("city", ("word", ("rome", "oslo"))), ("age", ("number", 8, 10)),
    ("hue", ("word", ("red", "blue"))), ("cold", ("number", -20, 5)),
)
FORMULA_ROW = ("oslo", 9, "red", -7)
ONE = ("one",)
ALWAYS = ("same", ONE, ONE)
NEVER = ("below", ONE, ONE)
YEARS = ("of", 1)
COLD = ("of", 3)


def number(n):
    return ("number", n)


# Amounts and what they come to of FORMULA_ROW, worked out by hand.
AMOUNTS = (
    (ONE, 1), (number(0), 0), (number(1000), 1000), (number(-1000), -1000), (number(-3), -3),
    (YEARS, 9), (COLD, -7),
    (("add", YEARS, COLD), 2), (("add", COLD, ONE), -6), (("add", number(1000), number(1000)), 2000),
    (("times", 20, YEARS), 180), (("times", -20, YEARS), -180), (("times", 0, COLD), 0),
    (("times", -1, COLD), 7), (("times", 20, ("times", 20, number(-1000))), -400000),
    (("bin", YEARS, 1), 9), (("bin", YEARS, 2), 8), (("bin", YEARS, 9), 9), (("bin", YEARS, 10), 0),
    (("bin", YEARS, 100), 0), (("bin", COLD, 1), -7), (("bin", COLD, 2), -8),
    (("bin", COLD, 7), -7), (("bin", COLD, 10), -10), (("bin", COLD, 100), -100),
    (("bin", number(-1), 100), -100), (("bin", number(0), 100), 0), (("bin", number(99), 100), 0),
    (("bin", number(100), 100), 100), (("bin", number(-100), 100), -100),
    (("bin", number(-101), 100), -200), (("bin", number(-1000), 3), -1002),
    (("times", -2, ("bin", ("add", COLD, ("times", 3, ONE)), 3)), 12),
    (("add", ("bin", ("times", -1, YEARS), 4), ("times", 2, ("bin", YEARS, 4))), 4),
)
# Conditions and whether they hold of FORMULA_ROW.
CONDITIONS = (
    (("is", 0, "oslo"), True), (("is", 0, "rome"), False), (("is", 2, "red"), True),
    (("is", 2, "blue"), False), (ALWAYS, True), (NEVER, False),
    (("below", COLD, YEARS), True), (("below", YEARS, COLD), False), (("below", YEARS, YEARS), False),
    (("below", YEARS, number(10)), True), (("below", YEARS, number(9)), False),
    (("same", YEARS, number(9)), True), (("same", YEARS, number(-9)), False),
    (("same", ("add", YEARS, COLD), number(2)), True), (("not", ALWAYS), False),
    (("not", NEVER), True), (("not", ("not", ALWAYS)), True),
    (("and", ALWAYS, ALWAYS), True), (("and", ALWAYS, NEVER), False),
    (("and", NEVER, ALWAYS), False), (("and", NEVER, NEVER), False),
    (("or", ALWAYS, ALWAYS), True), (("or", ALWAYS, NEVER), True), (("or", NEVER, ALWAYS), True),
    (("or", NEVER, NEVER), False),
    (("and", ("or", NEVER, ("is", 2, "red")), ("not", ("below", YEARS, COLD))), True),
    (("or", ("and", NEVER, ALWAYS), ("not", ("is", 0, "oslo"))), False),
)
KEYS = AMOUNTS + ((("word", 0), "oslo"), (("word", 2), "red"))

WRONG_AMOUNTS = (
    number(1001), number(-1001), number(True), number("1"), number(None), number((1,)),
    number(10 ** 89), ("number",), ("number", 1, 1), number(Number(1)),
    ("one", ()), ("One",), (Word("one"),), Row(("one",)), ["number", 1], ("two",), "one",
    ("of",), ("of", 0), ("of", 2), ("of", 4), ("of", -1), ("of", -3), ("of", True), ("of", "age"),
    ("of", None), ("of", (1,)), ("of", 1, 1), ("of", Number(1)), ("of", 10 ** 89),
    ("add",), ("add", ONE), ("add", ONE, ONE, ONE), ("add", ONE, 1), ("add", 1, ONE),
    ("add", ONE, ("of", 0)), ("add", ["one"], ONE), ("add", ALWAYS, ONE), ("add", ("word", 0), ONE),
    ["add", ONE, ONE], ("times",), ("times", 2), ("times", 21, ONE), ("times", -21, ONE),
    ("times", ONE, 2), ("times", True, ONE), ("times", "2", ONE), ("times", None, ONE),
    ("times", 2, 3), ("times", 2, ONE, ONE), ("times", ONE, ONE), ("times", 2, ALWAYS),
    ("times", Number(2), ONE),
    ("bin",), ("bin", ONE), ("bin", ONE, 0), ("bin", ONE, 101), ("bin", ONE, -1), ("bin", 2, ONE),
    ("bin", ONE, True), ("bin", ONE, "2"), ("bin", ONE, None), ("bin", ONE, ONE), ("bin", 3, 2),
    ("bin", ONE, 2, 2), ("bin", ("is", 0, "rome"), 2), ("bin", ONE, Number(2)),
    ("minus", ONE, ONE), ("", ONE), (None,), ((), ONE), (ONE, ONE), (("one",),), ([],),
)
WRONG_CONDITIONS = (
    ("is", 0, "bonn"), ("is", 0, "red"), ("is", 2, "rome"), ("is", 1, "rome"), ("is", 1, 9),
    ("is", 4, "rome"), ("is", -4, "rome"), ("is", False, "rome"), ("is", "city", "rome"),
    ("is", None, "rome"), ("is", 0, None), ("is", 0, 0), ("is", 0, ("rome",)), ("is", 0, ["rome"]),
    ("is", 0, ""), ("is", 0, Word("rome")), ("is", 0), ("is",), ("is", 0, "rome", "oslo"),
    ["is", 0, "rome"], ("is", (0,), "rome"), ("is", 10 ** 89, "rome"), ("is", Number(0), "rome"),
    ("below",), ("below", ONE), ("below", ONE, ONE, ONE), ("below", ONE, 1), ("below", 1, ONE),
    ("below", ("of", 0), ONE), ("below", ALWAYS, ALWAYS), ("below", ("word", 0), ("word", 0)),
    ("same",), ("same", ONE), ("same", ONE, ONE, ONE), ("same", ("word", 0), ("word", 0)),
    ("same", ONE, ALWAYS), ("same", 1, 1), ("same", ("of", 1), ("of", 2)), ["same", ONE, ONE],
    ("not",), ("not", ONE), ("not", ALWAYS, ALWAYS), ("not", None), ("not", True), ("not", ["is"]),
    ("and",), ("and", ALWAYS), ("and", ALWAYS, ALWAYS, ALWAYS), ("and", ALWAYS, ONE),
    ("and", ONE, ALWAYS), ("and", True, True), ["and", ALWAYS, ALWAYS],
    ("or",), ("or", ALWAYS), ("or", ALWAYS, ALWAYS, ALWAYS), ("or", ALWAYS, ("of", 1)),
    ("or", ONE, ONE), ("xor", ALWAYS, ALWAYS), (Word("not"), ALWAYS), Row(ALWAYS), ("above", ONE, ONE),
)
WRONG_KEYS = (
    ("word",), ("word", 1), ("word", 3), ("word", 4), ("word", -4), ("word", -2), ("word", False),
    ("word", "city"), ("word", None), ("word", 0, 0), ["word", 0], ("word", (0,)), ("Word", 0),
    ("words", 0), (Word("word"), 0), Row(("word", 0)), ("word", Number(0)), ("word", 10 ** 89),
    ("add", ("word", 0), ONE), ("bin", ("word", 0), 1), "city", 0,
)


def chain(count):
    """An amount with so many tuples in it."""
    return ("times", 1, chain(count - 1)) if count > 1 else YEARS


def bush(count):
    """An amount with so many tuples in it, an odd number, parted in two as evenly as goes."""
    if count == 1:
        return ONE
    half = (count - 1) // 2
    half += 1 - half % 2
    return ("add", bush(half), bush(count - 1 - half))


def refusals(count):
    """A condition with so many tuples in it, four or more."""
    return ("not", refusals(count - 1)) if count > 3 else ALWAYS


# Tellings of FORMULA_COLUMNS, right and wrong, these with the place of their first fault.
MARKS = ("point", "bar", "line")
WORTHS = ("sum", "least", "most", "mean")
TELLING = ("point", ALWAYS, ("word", 0), ("mean", COLD), ("word", 2), None)
WRONG_TELLINGS = (
    (None, ()), (TELLING[:5], ()), (TELLING + (None,), ()), (list(TELLING), ()), (Row(TELLING), ()),
    (("dot",) + TELLING[1:], (0,)), (("dot", None, None, None, 0, 0), (0,)),
    (TELLING[:1] + (ONE,) + TELLING[2:], (1,)), (TELLING[:2] + (None,) + TELLING[3:], (2,)),
    (TELLING[:3] + (ONE,) + TELLING[4:], (3,)), (("bar",) + TELLING[1:3] + (("each", ONE),) * 3, (3,)),
    (TELLING[:4] + (YEARS, YEARS), (4,)), (TELLING[:5] + (YEARS,), (5,)),
)


def some_amount(chance, columns, most=7):
    """An amount with at most so many tuples in it."""
    leaves = [ONE, number(chance.choice((-1000, -2, 0, 3, 1000)))]
    leaves += 3 * [("of", k) for k, (_, kind) in enumerate(columns) if kind[0] == "number"]
    word = chance.choice(("add", "times", "bin", "leaf", "leaf"))
    if most < 3 or word == "leaf":
        return chance.choice(leaves)
    if word == "add":
        half = (most - 1) // 2
        return ("add", some_amount(chance, columns, half), some_amount(chance, columns, half))
    within = some_amount(chance, columns, most - 1)
    if word == "times":
        return ("times", chance.choice((-20, -1, 0, 2, 20)), within)
    return ("bin", within, chance.choice((1, 2, 3, 10, 100)))


def some_condition(chance, columns, most=15):
    """A condition with at most so many tuples in it."""
    word = chance.choice(("is", "is", "below", "same", "not", "and", "or"))
    words = [k for k, (_, kind) in enumerate(columns) if kind[0] == "word"]
    half = (most - 1) // 2
    if word == "is" and words:
        column = chance.choice(words)
        return ("is", column, chance.choice(columns[column][1][1]))
    if word in ("below", "same") or most < 7:
        word = chance.choice(("below", "same"))
        return (word, some_amount(chance, columns, half), some_amount(chance, columns, half))
    if word == "not":
        return ("not", some_condition(chance, columns, most - 1))
    word = chance.choice(("and", "or"))
    return (word, some_condition(chance, columns, half), some_condition(chance, columns, half))


def some_telling(chance, columns):
    """A telling of the columns, of any mark and measure."""
    words = [("word", k) for k, (_, kind) in enumerate(columns) if kind[0] == "word"]
    mark = chance.choice(MARKS)
    word = chance.choice(WORTHS + ("count",) + (("each", "each") if mark == "point" else ()))
    return (
        mark,
        ALWAYS if chance.random() < 0.5 else some_condition(chance, columns),
        chance.choice(words + [some_amount(chance, columns)]),
        (word, ONE if word == "count" else some_amount(chance, columns)),
        chance.choice(words + [None]),
        chance.choice(words + [None]),
    )


def some_rows(chance, columns, count):
    """So many rows of the columns, some of them like one another."""
    rows = []
    for _ in range(count):
        row = tuple(
            chance.choice(kind[1]) if kind[0] == "word" else chance.randint(kind[1], kind[2])
            for _, kind in columns
        )
        rows.append(chance.choice(rows) if rows and chance.random() < 0.3 else row)
    return tuple(rows)


def some_cases(seed, count):
    """So many pairs of a telling and a table that it says something of."""
    chance = random.Random(seed)
    for _ in range(count):
        columns = chance.choice(DRAWN_COLUMNS)
        rows = some_rows(chance, columns, chance.choice((0, 1, 2, 5, 12, 40)))
        yield some_telling(chance, columns), (columns, rows)


DRAWN_COLUMNS = (
    FORMULA_COLUMNS,
    (("shop", ("word", ("south", "north"))), ("sold", ("number", 0, 3))),
    (("sold", ("number", -2, 1)), ("a", ("word", ("z", "y", "x"))), ("b", ("word", ("y", "a")))),
    (("a", ("number", -1, 1)), ("b", ("number", 990, 1000))),
    (("only", ("word", ("one",))),),
    (("b", ("word", ("q", "p", "o"))), ("a", ("word", ("of", "is", "word"))),
     ("n", ("number", 0, 0)), ("m", ("number", -5, 24))),
)


class Case(unittest.TestCase):
    """A test case that also looks at kinds, at fields of errors, at the time."""

    longMessage = True

    def same(self, told, wanted, why=None):
        """Told is the wanted value, equal in kind too."""
        self.assertEqual(kinds(told), kinds(wanted), why)

    def raises(self, error, call, *arguments, **fields):
        """The call raises exactly this error with these fields, and changes no argument."""
        before = [kinds(argument) for argument in arguments]
        try:
            told = call(*arguments)
        except drawntold.errors.DrawError as raised:
            shown = f"{call.__name__}{str(arguments)[:200]}"
            self.assertIs(type(raised), error, shown)
            for name, value in fields.items():
                self.same(getattr(raised, name), value, shown)
        else:
            self.fail(f"{call.__name__}{str(arguments)[:200]} told {str(told)[:200]}")
        self.assertEqual([kinds(argument) for argument in arguments], before)

    def quick(self, call, *arguments, seconds=5):
        """What the call tells; it ends within some seconds."""
        begun = time.monotonic()
        told = call(*arguments)
        self.assertLess(time.monotonic() - begun, seconds, call.__name__)
        return told

    def examples(self, text, names):
        """Runs lines as the document has them: `>>> ` and what is told below, or raised.

        What a line assigns is put into names."""
        lines = text.strip().splitlines()
        while lines:
            line = lines.pop(0)
            self.assertTrue(line.startswith(">>> "), line)
            source = line[4:]
            if isinstance(ast.parse(source).body[0], (ast.Assign, ast.ImportFrom)):
                exec(source, names)
                continue
            wanted = lines.pop(0)
            if wanted.startswith("raises "):
                error = eval(wanted[7:], dict(vars(drawntold.errors)))
                with self.assertRaises(type(error), msg=source) as caught:
                    eval(source, names)
                self.assertIs(type(caught.exception), type(error))
                self.same(vars(caught.exception), vars(error), source)
            else:
                self.same(eval(source, names), ast.literal_eval(wanted), source)
