"""[18], with [2], [3], [4]: texts of columns, tables, tellings, pictures, and what is told from them."""

import random
import unittest

import grammar
from drawntold import rowforms, texts
from drawntold.errors import (
    DrawError, InvalidColumns, InvalidTable, InvalidTelling, InvalidText, Unknown,
)
from drawntold.pictures import picture
from drawntold.tables import is_columns, is_table, table_fault
from drawntold.tellings import telling_fault
from drawntold.texts import (
    columns_text, columns_told, picture_text, picture_told, table_text, table_told, telling_text,
    telling_told,
)
from helper import (
    ALWAYS, AMOUNTS, COLD, COLUMNS, CONDITIONS, DRAWN_COLUMNS, FORMULA_COLUMNS, KEYS, MARKS, NEVER,
    ODD_VALUES, ONE, RIGHT_COLUMNS, TELLING, WORTHS, WRONG_COLUMNS, WRONG_TELLINGS, YEARS, Case,
    Number, Row, Word, number, some_cases, some_telling,
)

EXAMPLES = r"""
>>> from drawntold.texts import columns_text, picture_text, telling_text, telling_told
>>> two = (("shop", ("word", ("north", "south"))), ("sold", ("number", 0, 30)))
>>> columns_text(two)
'word shop : north south\nnumber sold 0 30'
>>> bars = telling_told(two, "bar where !( sold < 3 ) across @shop up sum sold hue - side -")
>>> bars
('bar', ('not', ('below', ('of', 1), ('number', 3))), ('word', 0), ('sum', ('of', 1)), None, None)
>>> telling_text(two, ("point", ("is", 0, "north"), ("bin", ("of", 1), 10), ("each", ("times", -2, ("of", 1))), ("word", 0), None))
'point where ( shop is north ) across ( sold bin 10 ) up each ( -2 * sold ) hue @shop side -'
>>> telling_told(two, "bar where !( sold < 3 ) across @price up sum cost hue - side -")
raises Unknown('price')
>>> picture_text(("point", ((None, (("word", ("north", "south")), ("number", (0, 1), (5, 1), ((0, 1), (5, 1)))), (((25, 1), (50, 3), None),)),)))
'point\npanel -\nacross word : north south\nup number 0 5 : 0 5\nmark 25 50/3 -'
"""

TWO = (("shop", ("word", ("north", "south"))), ("sold", ("number", 0, 30)))
TWO_TEXT = "word shop : north south\nnumber sold 0 30"
# Formulas of FORMULA_COLUMNS with their texts.
FORMULA_TEXTS = (
    (ONE, "#"), (number(0), "0"), (number(-1000), "-1000"), (number(1000), "1000"), (YEARS, "age"),
    (COLD, "cold"), (("add", YEARS, COLD), "( age + cold )"), (("times", -20, ONE), "( -20 * # )"),
    (("times", 0, ("times", 3, YEARS)), "( 0 * ( 3 * age ) )"), (("bin", COLD, 100), "( cold bin 100 )"),
    (("bin", ("add", number(-1), ONE), 1), "( ( -1 + # ) bin 1 )"),
)
CONDITION_TEXTS = (
    (("is", 0, "oslo"), "( city is oslo )"), (("is", 2, "red"), "( hue is red )"),
    (("below", YEARS, number(9)), "( age < 9 )"), (("same", ONE, ONE), "( # = # )"),
    (("not", ("is", 0, "rome")), "!( city is rome )"), (("not", ("not", ALWAYS)), "!!( # = # )"),
    (("and", NEVER, ALWAYS), "( ( # < # ) & ( # = # ) )"),
    (("or", ("not", NEVER), ALWAYS), "( !( # < # ) | ( # = # ) )"),
    (("same", ("bin", YEARS, 2), ("times", 2, YEARS)), "( ( age bin 2 ) = ( 2 * age ) )"),
)
HALF = (1, 2)


def index_of_fault(call, *arguments):
    """The index of the fault of a text's form, None if its form has none."""
    try:
        call(*arguments)
    except InvalidText as error:
        return error.index
    except DrawError:
        return None
    return None


def telling_of(keep="( # = # )", across="#", up="count #", hue="-", side="-", mark="bar"):
    return f"{mark} where {keep} across {across} up {up} hue {hue} side {side}"


def some_texts(seed, count):
    """So many tuples (form, call that tells, text), of all kinds of texts."""
    for telling, table in some_cases(seed, count):
        columns = table[0]
        for form, call, text in (
            (grammar.COLUMNS, columns_told, columns_text(columns)),
            (grammar.TABLE, table_told, table_text((columns, table[1][:12]))),
            (grammar.TELLING, lambda text: telling_told(columns, text), telling_text(columns, telling)),
            (grammar.PICTURE, picture_told, picture_text(picture(telling, table))),
        ):
            if len(text) < 500:
                yield form, call, text


class ColumnTextTests(Case):
    def refuses(self, text, index):
        """The text has its first wrong sign there, also where a table's text is asked for."""
        self.raises(InvalidText, columns_told, text, index=index)

    def test_examples_of_the_document(self):
        self.examples(EXAMPLES, {**vars(rowforms), **vars(texts)})

    def test_columns(self):
        self.same(columns_text(TWO), TWO_TEXT)
        self.same(columns_told(TWO_TEXT), TWO)
        self.same(columns_text(COLUMNS), "word city : rome oslo\nnumber age 8 10")
        self.same(columns_told("number abcdefgh -1000 -970"), (("abcdefgh", ("number", -1000, -970)),))
        self.same(columns_told("word word : number"), (("word", ("word", ("number",))),))
        for columns in RIGHT_COLUMNS + DRAWN_COLUMNS:
            self.same(columns_told(columns_text(columns)), columns)

    def test_signs_at_which_no_columns_go_on(self):
        for text, index in (
            ("", 0), ("n", 1), ("w", 1), ("x", 0), (" ", 0), ("\n", 0), ("nu", 2), ("nx", 1), ("wo", 2),
            ("row a 1", 0), ("number", 6), ("number ", 7), ("number  a", 7), ("numbera", 6),
            ("number A 0 1", 7), ("number a1 0 1", 8), ("number a", 8), ("number a ", 9), ("number a 0", 10),
            ("number a 0 ", 11), ("number a 0 1 ", 12), ("number a 0 1\n", 13), ("number a 0 1\n\n", 13),
            ("number a 0 1\nx", 13), ("number a 0 1\r\n", 12), ("number a : b", 9), ("number a 0.5 1", 10),
            ("number a - 1", 10), ("number a +1 2", 9), ("number a 0  1", 11), (" number a 0 1", 0),
            ("number abcdefghi 0 1", 15), ("number a 0 1 2", 12), ("number a 0\n1", 10),
            ("word", 4), ("word a", 6), ("word a ", 7), ("word a b", 7), ("word a :", 8), ("word a : ", 9),
            ("word a :b", 8), ("word a : 1", 9), ("word a : b1", 10), ("word a : b ", 11), ("word a : b  c", 11),
            ("word a : abcdefghi", 17), ("word a : b\nword", 15), ("word a 0 1", 7), ("word : a", 5),
            ("word a : b\n ", 11), ("word a : b, c", 10), ("word a : B", 9), ("word a : b :", 11),
        ):
            self.refuses(text, index)

    def test_integers(self):
        for text, told in (("0", 0), ("7", 7), ("-7", -7), ("1000", 1000), ("-1000", -1000), ("20", 20)):
            if told < 971:
                self.same(columns_told(f"number a {text} {told + 1}"), (("a", ("number", told, told + 1)),))
            self.same(columns_told(f"number a {max(told - 1, -1000)} {text}")[0][1][2], told)
        for text, at in (
            ("00", 1), ("01", 1), ("-0", 1), ("-01", 1), ("--1", 1), ("-", 1), ("10000", 4), ("-10000", 5),
            ("0-", 1), ("1-", 1), ("", 0), ("a", 0), ("#", 0), ("1.0", 1), ("1/2", 1),
        ):
            self.refuses(f"number a {text} 5", 9 + at)
            self.refuses(f"number a -5 {text} ", 12 + at if text else 12)

    def test_texts_of_the_form_that_are_no_columns(self):
        for text in (
            "number a 0 31", "number a 1 0", "number a -1001 -1000", "number a 9999 9999", "number a 1 1\nnumber a 1 1",
            "word a : b b", "word a : b c d e f g h", "word a : " + " ".join(["x"] * 5000),
            "\n".join(f"number {name} 0 1" for name in "abcde"),
            "number a 0 30\nnumber b 0 30\nnumber c 0 30",
        ):
            self.raises(InvalidColumns, columns_told, text)
            self.raises(InvalidColumns, table_told, text)
            self.raises(InvalidColumns, table_told, text + "\nrow 1")

    def test_values_that_are_no_strings_and_odd_strings(self):
        for value in ODD_VALUES + (Word(TWO_TEXT), [TWO_TEXT], (TWO_TEXT,), Number(1), Row()):
            for form, call in (
                (grammar.COLUMNS, columns_told), (grammar.TABLE, table_told), (grammar.PICTURE, picture_told),
                (grammar.TELLING, lambda text: telling_told(TWO, text)),
            ):
                index = grammar.fault(form, value) if type(value) == str else 0
                self.raises(InvalidText, call, value, index=index)

    def test_columns_that_are_none_have_no_text(self):
        for value in WRONG_COLUMNS:
            self.raises(InvalidColumns, columns_text, value)
        for value in WRONG_COLUMNS[::9]:
            self.raises(InvalidColumns, telling_text, value, TELLING)
            self.raises(InvalidColumns, telling_told, value, telling_of())
            self.raises(InvalidColumns, telling_told, value, None)

    def test_long_texts_end_soon(self):
        text = "word a : " + "ab " * 6600
        self.quick(index_of_fault, columns_told, text)
        self.raises(InvalidText, columns_told, text, index=len(text))
        text = "number a 0 1\n" * 1500
        self.raises(InvalidText, columns_told, text, index=len(text))
        self.raises(InvalidText, telling_told, TWO, "( " * 9000, index=0)


class TableTextTests(Case):
    def test_tables(self):
        self.same(table_text((TWO, ())), TWO_TEXT)
        self.same(table_told(TWO_TEXT), (TWO, ()))
        table = (TWO, (("south", 7), ("north", 0), ("south", 7)))
        text = TWO_TEXT + "\nrow south 7\nrow north 0\nrow south 7"
        self.same(table_text(table), text)
        self.same(table_told(text), table)
        below = (("row", ("number", -30, -1)),)
        self.same(table_told("number row -30 -1\nrow -30\nrow -1"), (below, ((-30,), (-1,))))
        for _, table in some_cases(70, 200):
            self.same(table_told(table_text(table)), table)

    def test_signs_at_which_no_table_goes_on(self):
        start = len(TWO_TEXT)
        for text, index in (
            ("\n", 1), ("\nr", 2), ("\nx", 1), ("\nrow", 4), ("\nrow ", 5), ("\nrow  7", 5), ("\nrow A", 5),
            ("\nrow north", None), ("\nrow north ", 11), ("\nrow north 7 ", 13), ("\nrow north 7\n", 13),
            ("\nrow north 7\nnumber a 0 1", 13), ("\nrow north 7\nrow", 16), ("\nrow north 07", 12),
            ("\nrow north -0", 12), ("\nrow abcdefghi", 13), ("\nrow 12345", 9), ("\nrow north 7 row", None),
            ("\nrow # 7", 5), ("\nrow north7", 10), ("\nrow 7north", 6), ("\nrow north, 7", 10), (" row", None),
            ("\nnumber b 0 1\nrow", 17), ("\nrows", 4), ("\n row north 7", 1),
        ):
            text = TWO_TEXT + text
            if index is None:
                self.same(index_of_fault(table_told, text), grammar.fault(grammar.TABLE, text))
            else:
                self.raises(InvalidText, table_told, text, index=start + index)
        for text, index in (("", 0), ("row 1", 0), ("number a 0", 10), ("word a :", 8)):
            self.raises(InvalidText, table_told, text, index=index)
        self.raises(InvalidText, columns_told, TWO_TEXT + "\nrow north 7", index=start + 1)

    def test_texts_of_the_form_that_are_no_tables(self):
        right = "\nrow north 7"
        for lines, index in (
            ("\nrow north", 0), ("\nrow north 7 7", 0), ("\nrow 7 north", 0), (right + "\nrow north 31", 1),
            (right + right + "\nrow west 7", 2), (right + "\nrow north seven\nrow", None), (right * 41, 40),
            (right * 40 + "\nrow x", 40), (right * 39 + "\nrow x", 39), (right * 41 + "\nrow 1", 40), (right * 60, 40),
            ("\nrow -1", 0), ("\nrow north -7", 0), ("\nrow north 9999", 0),
        ):
            text = TWO_TEXT + lines
            if index is None:
                self.raises(InvalidText, table_told, text, index=len(text))
            else:
                self.raises(InvalidTable, table_told, text, index=index)
        self.same(len(table_told(TWO_TEXT + right * 40)[1]), 40)

    def test_tables_that_are_none_have_no_text(self):
        for value in ODD_VALUES:
            self.raises(InvalidTable, table_text, value, index=0)
        self.raises(InvalidTable, table_text, (TWO, (("north", 1), ("north", 31))), index=1)
        self.raises(InvalidTable, table_text, (TWO, (("north", 1),) * 41), index=40)


class TellingTextTests(Case):
    def told(self, text, telling, columns=FORMULA_COLUMNS):
        """A text and a telling tell one another."""
        self.same(telling_told(columns, text), telling, text)
        self.same(telling_text(columns, telling), text, telling)

    def test_formulas(self):
        for amount, text in FORMULA_TEXTS:
            for word in WORTHS + ("each",):
                self.told(telling_of(up=f"{word} {text}", mark="point"),
                          ("point", ALWAYS, ONE, (word, amount), None, None))
            self.told(telling_of(across=text), ("bar", ALWAYS, amount, ("count", ONE), None, None))
            self.told(telling_of(keep=f"( {text} < {text} )"),
                      ("bar", ("below", amount, amount), ONE, ("count", ONE), None, None))
        for condition, text in CONDITION_TEXTS:
            self.told(telling_of(keep=text), ("bar", condition, ONE, ("count", ONE), None, None))

    def test_marks_keys_and_panes(self):
        for mark in MARKS:
            self.told(telling_of(mark=mark, across="@city", hue="@hue", side="@city"),
                      (mark, ALWAYS, ("word", 0), ("count", ONE), ("word", 2), ("word", 0)))
        self.told(telling_of(across="cold", side="@hue"), ("bar", ALWAYS, COLD, ("count", ONE), None, ("word", 2)))

    def test_names_that_are_words_of_the_form(self):
        columns = (("is", ("word", ("is", "bin"))), ("bin", ("number", 0, 9)), ("where", ("word", ("up",))))
        self.told("bar where ( ( is is is ) & ( ( bin bin 3 ) < bin ) ) across @where up sum bin hue @is side @where", (
            "bar", ("and", ("is", 0, "is"), ("below", ("bin", ("of", 1), 3), ("of", 1))), ("word", 2),
            ("sum", ("of", 1)), ("word", 0), ("word", 2),
        ), columns)

    def test_all_samples(self):
        for condition, _ in CONDITIONS:
            telling = TELLING[:1] + (condition,) + TELLING[2:]
            self.same(telling_told(FORMULA_COLUMNS, telling_text(FORMULA_COLUMNS, telling)), telling)
        for key, _ in KEYS:
            telling = TELLING[:2] + (key,) + TELLING[3:]
            self.same(telling_told(FORMULA_COLUMNS, telling_text(FORMULA_COLUMNS, telling)), telling)
        for amount, _ in AMOUNTS:
            telling = TELLING[:3] + (("most", amount),) + TELLING[4:]
            self.same(telling_told(FORMULA_COLUMNS, telling_text(FORMULA_COLUMNS, telling)), telling)
        chance = random.Random(71)
        for _ in range(500):
            columns = chance.choice(DRAWN_COLUMNS)
            telling = some_telling(chance, columns)
            text = telling_text(columns, telling)
            self.same(telling_told(columns, text), telling)
            self.assertIsNone(grammar.fault(grammar.TELLING, text))

    def test_signs_at_which_no_telling_goes_on(self):
        for text, index in (
            ("", 0), ("b", 1), ("bars", 3), ("bax", 2), ("dot", 0), ("point ", 6), ("line where", 10),
            ("bar  where", 4),
            ("bar where ", 10), ("bar where @city", 10), ("bar where -", 11), ("bar where -a", 11),
            ("bar where 01", 11),
            ("bar where (", 11), ("bar where (a", 11), ("bar where ( ", 12), ("bar where ( # ", 14),
            ("bar where ( # # )", 14), ("bar where ( # * # )", 14), ("bar where ( age * # )", 16),
            ("bar where ( -3 * # )", 20), ("bar where ( # is a )", 14), ("bar where ( 3 is a )", 14),
            ("bar where ( age is 3 )", 19), ("bar where ( age is # )", 19), ("bar where ( age is a b )", 21),
            ("bar where ( age bin # )", 20), ("bar where ( age bin a )", 20), ("bar where ( age bi", 18),
            ("bar where ( age b ", 17), ("bar where ( age i ", 17), ("bar where ( age+1 )", 15),
            ("bar where ( age == 1 )", 17), ("bar where ( age & age )", 23), ("bar where ( age | ", 18),
            ("bar where ( age = age)", 21), ("bar where ! age", 11), ("bar where !", 11), ("bar where !)", 11),
            ("bar where ( # = # ) )", 20), ("bar where ( @city = # )", 12), ("bar where ( ( # = # ) is a )", 22),
            ("bar where ( ( 3 ) * a )", 16), ("bar where age across", 20), ("bar where abcdefghi", 18),
            ("bar where age across @", 22), ("bar where age across @9", 22), ("bar where age across !@", 22),
            ("bar where age across @city up", 29), ("bar where age across @city up m", 31),
            ("bar where age across @city up mx", 31), ("bar where age across @city up sum", 33),
            ("bar where age across @city up sums", 33), ("bar where age across @city up sum @", 34),
            ("bar where age across @city up le ", 32), ("bar where age across @city up count # hue #", 42),
            ("bar where age across @city up count # hue @", 43), ("bar where age across @city up count # hue --", 43),
            ("bar where age across @city up count # hue - side", 48),
            ("bar where # across # up mean # hue - side -\n", 43),
            ("bar where # across # up mean # hue - side - ", 43), ("bar where # across # up mean # hue -side -", 36),
            ("bar where # across # up mean # side - hue -", 31), (" bar where", 0), ("Bar where", 0),
        ):
            self.raises(InvalidText, telling_told, FORMULA_COLUMNS, text, index=index)
            self.same(grammar.fault(grammar.TELLING, text), index, text)

    def test_brackets_and_refusals_that_are_open_at_once(self):
        def nested(count, atom="#"):
            return "( " * count + atom + " = # )" * count
        self.raises(InvalidTelling, telling_told, TWO, telling_of(keep=nested(30)), place=(1,))
        self.raises(InvalidText, telling_told, TWO, telling_of(keep=nested(31)), index=10 + 60)
        self.raises(InvalidText, telling_told, TWO, telling_of(keep=nested(900)), index=10 + 60)
        self.raises(InvalidTelling, telling_told, TWO, telling_of(keep="!" * 30 + "#"), place=(1,))
        self.raises(InvalidText, telling_told, TWO, telling_of(keep="!" * 31 + "#"), index=10 + 30)
        self.raises(InvalidTelling, telling_told, TWO, telling_of(keep="!" * 15 + nested(15)), place=(1,))
        self.raises(InvalidText, telling_told, TWO, telling_of(keep="!" * 15 + nested(15, "!#")), index=10 + 45)
        self.raises(InvalidText, telling_told, TWO, telling_of(keep=nested(29, "!!#")), index=10 + 59)
        self.raises(InvalidTelling, telling_told, TWO, telling_of(keep=nested(28, "!!#")), place=(1,))
        # A ! is open until its formula ends, a bracket until it is closed, and no longer.
        for within, more in (("!" * 29 + "#", "!" * 30 + "#"), (nested(29), nested(30))):
            self.raises(InvalidTelling, telling_told, TWO, telling_of(keep=f"( {within} & {within} )"), place=(1,))
            text = telling_of(keep=f"( {within} & {more} )")
            index = 10 + len(f"( {within} & ") + more.index("#") - (2 if more[0] == "(" else 1)
            self.raises(InvalidText, telling_told, TWO, text, index=index)
            self.same(grammar.fault(grammar.TELLING, text), index)
        # Those of another formula of the telling are no longer open.
        self.raises(InvalidTelling, telling_told, TWO, telling_of("!" * 30 + "#", "!" * 30 + "#"), place=(1,))
        self.raises(InvalidTelling, telling_told, TWO, telling_of(across=nested(30)), place=(2,))
        for name, index in (("across", 27), ("up", 36)):
            told = {name: "sum " * (name == "up") + nested(31)}
            self.raises(InvalidText, telling_told, TWO, telling_of(**told), index=index + 60)

    def test_texts_of_the_form_that_are_no_tellings(self):
        for text, place in (
            (telling_of(keep="( 1 & 2 )"), (1,)), (telling_of(keep="#"), (1,)), (telling_of(keep="age"), (1,)),
            (telling_of(keep="!age"), (1,)), (telling_of(keep="( age is rome )"), (1,)),
            (telling_of(keep="( city is bonn )"), (1,)), (telling_of(keep="( city < # )"), (1,)),
            (telling_of(across="city"), (2,)), (telling_of(across="@age"), (2,)), (telling_of(across="( # = # )"),
            (2,)),
            (telling_of(across="1001"), (2,)), (telling_of(across="( 21 * # )"), (2,)),
            (telling_of(across="( # bin 0 )"), (2,)), (telling_of(across="( # bin -5 )"), (2,)),
            (telling_of(across="( # bin 101 )"), (2,)), (telling_of(across="!#"), (2,)),
            (telling_of(up="each age"), (3,)), (telling_of(up="each #", mark="line"), (3,)),
            (telling_of(up="count age"), (3,)), (telling_of(up="sum city"), (3,)), (telling_of(up="sum -1001"), (3,)),
            (telling_of(hue="@age"), (4,)), (telling_of(side="@cold"), (5,)),
            (telling_of(hue="@age", across="city", side="@cold"), (2,)),
        ):
            self.raises(InvalidTelling, telling_told, FORMULA_COLUMNS, text, place=place)
        fifteen = "( age + " * 6 + "( # + # )" + " )" * 6
        self.same(telling_told(FORMULA_COLUMNS, telling_of(across=fifteen))[2][0], "add")
        self.raises(InvalidTelling, telling_told, FORMULA_COLUMNS, telling_of(across=f"( 1 * {fifteen} )"), place=(2,))

    def test_names_that_no_column_has(self):
        for text, word in (
            (telling_of(keep="x"), "x"), (telling_of(keep="( x is rome )"), "x"), (telling_of(keep="( age + x )"), "x"),
            (telling_of(keep="!( ( 2 * x ) = y )"), "x"), (telling_of(across="@x"), "x"),
            (telling_of(across="( x bin 3 )"), "x"), (telling_of(up="sum x"), "x"), (telling_of(hue="@x"), "x"),
            (telling_of(side="@x"), "x"), (telling_of(keep="a", across="b", up="sum c", hue="@d", side="@e"), "a"),
            (telling_of(across="b", up="sum c", hue="@d", side="@e"), "b"),
            (telling_of(up="sum c", hue="@d", side="@e"), "c"), (telling_of(hue="@d", side="@e"), "d"),
            (telling_of(keep="( age + ( b < a ) )"), "b"), (telling_of(keep="( ( city is a ) & ( c is d ) )"), "c"),
            # Ahead of all that makes it no telling.
            (telling_of(keep="age", up="each city", side="@abcdefgh"), "abcdefgh"),
        ):
            self.raises(Unknown, telling_told, FORMULA_COLUMNS, text, word=word)
        # A word that a column is asked for is no name.
        self.raises(InvalidTelling, telling_told, FORMULA_COLUMNS, telling_of(keep="( city is x )"), place=(1,))
        # The form comes first.
        text = telling_of(keep="x")
        self.raises(InvalidText, telling_told, FORMULA_COLUMNS, text + " ", index=len(text))

    def test_tellings_that_are_none_have_no_text(self):
        for value, place in WRONG_TELLINGS + tuple((value, ()) for value in ODD_VALUES):
            self.raises(InvalidTelling, telling_text, FORMULA_COLUMNS, value, place=place)
        self.raises(InvalidTelling, telling_text, COLUMNS, TELLING, place=(3,))

    def test_arguments_by_name(self):
        telling = ("bar", ALWAYS, ONE, ("count", ONE), None, None)
        self.same(telling_told(text=telling_of(), columns=TWO), telling)
        self.same(telling_text(telling=telling, columns=TWO), telling_of())
        self.same(columns_told(text=columns_text(columns=TWO)), TWO)
        self.same(table_told(text=table_text(table=(TWO, ()))), (TWO, ()))
        self.same(picture_told(text=picture_text(picture=("bar", ()))), ("bar", ()))


class PictureTextTests(Case):
    AXES = (("word", ("a", "b")), ("number", (-3, 1), HALF, ((-3, 1), (0, 1), HALF)))
    AXES_TEXT = "across word : a b\nup number -3 0.5 : -3 0 0.5"

    def told(self, text, value):
        """A text and a picture tell one another."""
        self.same(picture_told(text), value)
        self.same(picture_text(value), text)

    def test_pictures_without_panels_and_without_marks(self):
        for mark in MARKS:
            self.told(mark, (mark, ()))
            self.told(f"{mark}\npanel -\n{self.AXES_TEXT}", (mark, ((None, self.AXES, ()),)))
            self.told(f"{mark}\npanel x\n{self.AXES_TEXT}\npanel y\n{self.AXES_TEXT}",
                      (mark, (("x", self.AXES, ()), ("y", self.AXES, ()))))
        self.told("bar\npanel -\nacross number 0 1 : 0\nup word : x",
                  ("bar", ((None, (("number", (0, 1), (1, 1), ((0, 1),)), ("word", ("x",))), ()),)))

    def test_marks_of_each_kind(self):
        start = "\npanel -\n" + self.AXES_TEXT
        self.told("point" + start + "\nmark 25 50/3 -\nmark -0.5 100 red", ("point", ((None, self.AXES, (
            ((25, 1), (50, 3), None), ((-1, 2), (100, 1), "red"),
        )),)))
        self.told("bar" + start + "\nmark -50/3 0 0 100 -\nmark 1 2 3 4 red", ("bar", ((None, self.AXES, (
            ((-50, 3), (0, 1), (0, 1), (100, 1), None), ((1, 1), (2, 1), (3, 1), (4, 1), "red"),
        )),)))
        self.told("line" + start + "\nmark - : 0 1\nmark red : 0 1/3 , 2.5 -1 , 7 7", ("line", ((None, self.AXES, (
            (None, (((0, 1), (1, 1)),)), ("red", (((0, 1), (1, 3)), ((5, 2), (-1, 1)), ((7, 1), (7, 1)))),
        )),)))

    def test_pictures_of_many_tellings(self):
        for telling, table in some_cases(72, 300):
            value = picture(telling, table)
            self.same(picture_told(picture_text(value)), value)
        for telling, table in some_cases(73, 40):
            self.assertIsNone(grammar.fault(grammar.PICTURE, picture_text(picture(telling, table))))

    def test_whether_there_is_such_a_picture_is_not_asked(self):
        for text in (
            "point\npanel -\nacross word : a a\nup number 5 1 : 9\nmark 1 1 red\nmark 2 2 -",
            "line\npanel b\nacross number 0 0 : 0\nup word : z y\nmark - : 1 1 , 1 1\npanel a\nacross word : c\n"
            "up number 1 2 : 3 3 3\npanel a\nacross word : c\nup number 1 2 : 3",
        ):
            self.same(picture_text(picture_told(text)), text)

    def test_signs_at_which_no_picture_goes_on(self):
        start = "point\npanel -\n" + self.AXES_TEXT
        for text, index in (
            ("", 0), ("p", 1), ("panel", 1), ("point\n", 6), ("point ", 5), ("points", 5), ("bar\nmark 1 1 -", 4),
            ("bar\npanel", 9), ("bar\npanel ", 10), ("bar\npanel --", 11), ("bar\npanel A", 10),
            ("bar\npanel abcdefghi", 18),
            ("bar\npanel -", 11), ("bar\npanel -\n", 12), ("bar\npanel -\nup", 12), ("bar\npanel -\nacross w", 20),
            ("bar\npanel -\nacross word :", 25), ("bar\npanel -\nacross word : ", 26),
            ("bar\npanel -\nacross word : 1", 26),
            ("bar\npanel -\nacross word : a", 27), ("bar\npanel -\nacross word : a\n", 28),
            ("bar\npanel -\nacross word : a\npanel", 28), ("bar\npanel -\nacross word : a\nup number 1 2 :", 43),
            ("bar\npanel -\nacross word : a\nup number 1 2 3", 42),
            ("bar\npanel -\nacross word : a\nup number 1 2 : ", 44),
            ("bar\npanel -\nacross word : a\nup number 1 2 : a", 44),
        ):
            self.raises(InvalidText, picture_told, text, index=index)
            self.same(grammar.fault(grammar.PICTURE, text), index, text)
        for mark, lines, index in (
            ("point", "\n", 1), ("point", " ", 1), ("point", "\nmark", 5), ("point", "\nmark 1", 7),
            ("point", "\nmark 1 2", 9),
            ("point", "\nmark 1 2 3", 10), ("point", "\nmark 1 2 - ", 11), ("point", "\nmark 1 2 -\n", 12),
            ("point", "\nmark 1 2 -\nx", 12), ("point", "\nmark 1 2 -\nup", 12), ("point", "\nmark - : 1 2", 7),
            ("point", "\nmark 1 2 3 4 -", 10), ("bar", "\nmark 1 2 -", 11), ("bar", "\nmark 1 2 a", 10),
            ("bar", "\nmark 1 2 3 4", 13), ("bar", "\nmark 1 2 3 4 5", 14), ("bar", "\nmark 1 2 3 4 -x", 15),
            ("line", "\nmark 1 2 -", 6), ("line", "\nmark - 1 2", 8), ("line", "\nmark - : 1", 11),
            ("line", "\nmark - : 1 2 3", 14),
            ("line", "\nmark - : 1 2 ,", 15), ("line", "\nmark - : 1 2 , 3", 17), ("line", "\nmark - : 1 2, 3", 13),
            ("line", "\nmark - : 1 2 , 3 4 ", 20), ("line", "\nmark a: 1 2", 7), ("line", "\nmark - : ", 10),
            ("point", "\nmark 1  2 -", 8), ("point", "\nmark 1,2 -", 7),
        ):
            ahead = mark + start[5:]
            self.raises(InvalidText, picture_told, ahead + lines, index=len(ahead) + index)
            self.same(grammar.fault(grammar.PICTURE, ahead + lines), len(ahead) + index, lines)

    def test_numbers(self):
        for text, at in (
            # Within a number, and behind one that can not end.
            ("3/4", 3), ("0/3", 1), ("-0", 2), ("1.50", 4), ("1.", 2), ("1/", 2), ("-", 1), ("01", 1), ("1-", 1),
            ("1//3", 2), ("1.2.3", 3), ("1/0", 2), ("--1", 1), (".5", 0), ("6/9", 3), ("2/6", 3), ("0.0", 3),
            ("-0.0", 4),
            ("1/3/", 3), ("1/3.", 3), ("1.5/3", 3), ("+1", 0), ("", 0), ("x", 0), ("1e3", 1), ("1/3-", 3), ("10/5", 4),
        ):
            start = "point\npanel -\nacross word : a\nup number "
            self.raises(InvalidText, picture_told, start + text, index=len(start) + at)
            self.raises(InvalidText, picture_told, f"{start}{text} 1 : 1", index=len(start) + at)
            start += "0 1 : 0 "
            self.raises(InvalidText, picture_told, start + text, index=len(start) + at)
            self.raises(InvalidText, picture_told, f"{start}{text}\nmark 1 1 -", index=len(start) + at)
            start += "1\nmark 1 1 a\nmark "
            self.raises(InvalidText, picture_told, f"{start}{text} 1 -", index=len(start) + at)
            start = start.replace("point", "line").replace("mark 1 1 a", "mark a : 1 1") + "- : 1 1 , "
            self.raises(InvalidText, picture_told, f"{start}{text} 2 , 3 4", index=len(start) + at)
        long = f"{10 ** 290 + 1}/{3 ** 200}"
        text = f"point\npanel -\nacross word : a\nup number 0 1 : {long}"
        self.same(picture_text(picture_told(text)), text)

    def test_a_long_text_ends_soon(self):
        start = "point\npanel -\nacross word : a\nup number 0 1 : 0"
        for text in (start + "\nmark 1/3 -0.25 red" * 1000, start + " 1/3" * 4900, start + "1" * 19900):
            self.quick(index_of_fault, picture_told, text)
        text = start + "\nmark 1/3 -0.25 red" * 1000
        self.same(len(picture_told(text)[1][0][2]), 1000)


class AllTextsTests(Case):
    def test_each_start_of_a_text(self):
        for form, call, text in some_texts(74, 12):
            ends = [k for k in range(len(text)) if index_of_fault(call, text[:k]) is None]
            for k in range(len(text)):
                wanted = None if k in ends else k
                self.same(index_of_fault(call, text[:k]), wanted, text[:k])
            self.same(grammar.fault(form, text), None)
            for k in ends[:5]:
                self.same(grammar.fault(form, text[:k]), None)

    def test_bent_texts_are_refused_where_their_form_is_left(self):
        chance = random.Random(75)
        counts = {True: 0, False: 0}
        for form, call, text in some_texts(76, 250):
            for _ in range(4):
                bent = grammar.bent(chance, text)
                if chance.random() < 0.2:
                    bent = grammar.bent(chance, bent)
                index = grammar.fault(form, bent)
                self.same(index_of_fault(call, bent), index, bent)
                counts[index is None] += 1
        self.assertTrue(counts[True] > 300 and counts[False] > 1500, counts)

    def test_no_other_text_tells_what_is_told(self):
        chance = random.Random(77)
        told = 0
        for telling, table in some_cases(78, 400):
            columns = table[0]
            for call, write, text in (
                (columns_told, columns_text, columns_text(columns)), (table_told, table_text, table_text(table)),
                (lambda text: telling_told(columns, text), lambda value: telling_text(columns, value),
                 telling_text(columns, telling)),
                (picture_told, picture_text, picture_text(picture(telling, table))),
            ):
                for bent in (text, grammar.bent(chance, text), grammar.bent(chance, text)):
                    try:
                        value = call(bent)
                    except DrawError:
                        continue
                    told += 1
                    self.assertEqual(write(value), bent)
        self.assertGreater(told, 1800)

    def test_errors_behind_the_form_are_those_of_the_values(self):
        chance = random.Random(79)
        found = {InvalidColumns: 0, InvalidTable: 0, InvalidTelling: 0, Unknown: 0}
        for telling, table in some_cases(80, 900):
            columns, rows = table
            for text in (table_text(table), telling_text(columns, telling)):
                bent = grammar.bent(chance, text)
                is_table_text = text.startswith(("number", "word"))
                try:
                    value = table_told(bent) if is_table_text else telling_told(columns, bent)
                except InvalidText:
                    continue
                except DrawError as error:
                    found[type(error)] += 1
                    continue
                if is_table_text:
                    self.assertTrue(is_table(value) and is_columns(value[0]) and table_fault(value) is None)
                else:
                    self.assertIsNone(telling_fault(columns, value))
        self.assertTrue(all(found.values()), found)


if __name__ == "__main__":
    unittest.main()
