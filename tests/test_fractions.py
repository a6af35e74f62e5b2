"""[6], with [2], [3], [4]: fractions and their texts."""

import itertools
import random
import re
import unittest
from fractions import Fraction

from drawntold import fractions
from drawntold.errors import InvalidFraction, InvalidText
from drawntold.fractions import (
    below, fraction, fraction_text, fraction_told, is_fraction, minus, over, plus, sum_of, times,
)
from helper import ODD_VALUES, Case, Number, Row, Word

EXAMPLES = """
>>> [fraction(6, -4), over((1, 2), (-1, 3)), sum_of(((1, 2), (1, 3)))]
[(-3, 2), (-3, 2), (5, 6)]
>>> [fraction_text(number) for number in ((5, 1), (-1, 8), (201, 20), (1, 3))]
['5', '-0.125', '10.05', '1/3']
>>> fraction_told("3/4")
raises InvalidText(3)
>>> fraction_told("0/3")
raises InvalidText(1)
"""

# Fractions that are none: not in lowest terms, of other lengths and kinds.
NO_FRACTIONS = ODD_VALUES + (
    (2, 4), (0, 2), (-3, 3), (1, 0), (0, 0), (1, -2), (0, -1), (10 ** 40, 10 ** 39), (1, 2, 3), (1,), [1, 2],
    (1, "2"), ("1", 2), (None, 1), (False, 1), (True, True), ((1, 2), 1), (1, [1]),
    (Number(1), 2), (1, Number(2)), Row((1, 2)),
)
TWO_SIDED = (plus, minus, times, over, below)


def told(number):
    """A fraction of Python's own as a tuple."""
    return (number.numerator, number.denominator)


def own(number):
    """A tuple as a fraction of Python's own."""
    return Fraction(number[0], number[1])


def some_fractions(seed, digits, count):
    chance = random.Random(seed)
    most = 10 ** digits
    return [
        told(Fraction(chance.randint(-most, most), chance.randint(1, most))) for _ in range(count)
    ]


SMALL = tuple(sorted({
    told(Fraction(top, bottom)) for top in range(-7, 8) for bottom in range(1, 8)
}))


class FractionTests(Case):
    def test_examples_of_the_document(self):
        self.examples(EXAMPLES, dict(vars(fractions)))

    def test_is_fraction_of_all_small_pairs(self):
        for top in range(-12, 13):
            for bottom in range(-12, 13):
                wanted = bottom > 0 and told(Fraction(top, bottom)) == (top, bottom)
                self.same(is_fraction((top, bottom)), wanted, (top, bottom))

    def test_is_fraction_of_other_values(self):
        for value in NO_FRACTIONS:
            self.same(is_fraction(value), False, str(value)[:99])

    def test_fraction_of_pairs_with_and_without_a_common_divisor(self):
        for top in range(-30, 31):
            for bottom in range(-30, 31):
                if bottom == 0:
                    self.raises(InvalidFraction, fraction, top, bottom)
                else:
                    self.same(fraction(top, bottom), told(Fraction(top, bottom)), (top, bottom))

    def test_fraction_of_long_integers(self):
        chance = random.Random(5)
        for _ in range(200):
            top, bottom, both = [chance.randint(1, 10 ** 40) for _ in range(3)]
            for sign in (1, -1):
                wanted = told(Fraction(sign * top, bottom))
                self.same(fraction(sign * top * both, bottom * both), wanted)
                self.same(fraction(top * both, sign * bottom * both), wanted)

    def test_fraction_refuses_what_is_no_integer(self):
        odd = [value for value in ODD_VALUES if type(value) != int] + [Number(2)]
        for value in odd:
            self.raises(InvalidFraction, fraction, value, 1)
            self.raises(InvalidFraction, fraction, 1, value)
            self.raises(InvalidFraction, fraction, value, value)
            self.raises(InvalidFraction, fraction, value, 0)

    def test_calls_of_two_small_fractions(self):
        for one, other in itertools.product(SMALL, SMALL):
            a, b = own(one), own(other)
            self.same(plus(one, other), told(a + b))
            self.same(minus(one, other), told(a - b))
            self.same(times(one, other), told(a * b))
            self.same(below(one, other), a < b)
            if b == 0:
                self.raises(InvalidFraction, over, one, other)
            else:
                self.same(over(one, other), told(a / b))

    def test_calls_of_long_fractions_and_of_what_they_tell(self):
        for one, other in itertools.pairwise(some_fractions(1, 40, 60)):
            a, b = own(one), own(other)
            self.same(plus(one, other), told(a + b))
            self.same(minus(one, other), told(a - b))
            self.same(times(plus(one, other), minus(one, other)), told((a + b) * (a - b)))
            self.same(over(times(one, one), other), told(a * a / b))
            self.same(minus(plus(one, other), other), one)
            self.same(times(over(one, other), other), one)
            self.same(below(one, plus(one, (1, 10 ** 80))), True)
            self.same(below(plus(one, (1, 10 ** 80)), one), False)
            self.same(below(one, one), False)

    def test_sums_in_any_sequence(self):
        chance = random.Random(2)
        for count in range(31):
            numbers = some_fractions(count, chance.choice((1, 3, 40)), count)
            wanted = told(sum([own(number) for number in numbers], Fraction(0)))
            self.same(sum_of(tuple(numbers)), wanted, count)
            chance.shuffle(numbers)
            self.same(sum_of(tuple(numbers)), wanted, count)
            self.same(sum_of(tuple(reversed(numbers))), wanted, count)

    def test_sum_of_refuses_other_values(self):
        odd = [value for value in NO_FRACTIONS if value != ()]
        for value in odd:
            self.raises(InvalidFraction, sum_of, value)
            self.raises(InvalidFraction, sum_of, (value,))
            self.raises(InvalidFraction, sum_of, ((1, 2), value))
            self.raises(InvalidFraction, sum_of, (value, (1, 2)))
        for value in ([], [(1, 2)], (1, 2), Row(((1, 2),))):
            self.raises(InvalidFraction, sum_of, value)
        self.same(sum_of(()), (0, 1))
        self.same(sum_of(((3, 4),)), (3, 4))

    def test_calls_refuse_what_is_no_fraction(self):
        for value in NO_FRACTIONS:
            for call in TWO_SIDED:
                self.raises(InvalidFraction, call, value, (1, 2))
                self.raises(InvalidFraction, call, (1, 2), value)
                self.raises(InvalidFraction, call, value, value)
            self.raises(InvalidFraction, over, value, (0, 1))
            self.raises(InvalidFraction, fraction_text, value)

    def test_arguments_by_name(self):
        self.same(is_fraction(value=(1, 2)), True)
        self.same(fraction(bottom=4, top=2), (1, 2))
        for call, wanted in zip(TWO_SIDED, ((5, 6), (1, 6), (1, 6), (3, 2), False)):
            self.same(call(other=(1, 3), one=(1, 2)), wanted)
        self.same(sum_of(numbers=((1, 2),)), (1, 2))
        self.same(fraction_text(number=(1, 2)), "0.5")
        self.same(fraction_told(text="0.5"), (1, 2))

    def test_calls_at_the_bounds_of_use_end_soon(self):
        long = 10 ** 399 + 1, 10 ** 399 + 2
        for call in TWO_SIDED:
            self.quick(call, long, (long[1], long[0]))
        # A sum of as many fractions as a tuple of 6,000 parts has.
        numbers = tuple(some_fractions(3, 90, 2000))
        total = self.quick(sum_of, numbers)
        self.assertTrue(total[1] > 10 ** 100000)
        self.same(self.quick(sum_of, ((1, 3),) * 2000), (2000, 3))


POINTS = re.compile(r"-?(0|[1-9][0-9]*)(\.[0-9]*[1-9])?")
QUOTIENTS = re.compile(r"-?[1-9][0-9]*/[1-9][0-9]*")


def has_point_text(bottom):
    for prime in (2, 5):
        while bottom % prime == 0:
            bottom //= prime
    return bottom == 1


class TextTests(Case):
    def right_text(self, number):
        """The text of a fraction, looked at in another way; told, it is the fraction again."""
        text = fraction_text(number)
        form = POINTS if has_point_text(number[1]) else QUOTIENTS
        self.assertTrue(form.fullmatch(text), text)
        self.assertNotEqual(text, "-0")
        self.assertEqual(Fraction(text), own(number))
        self.same(fraction_told(text), number, text)
        return text

    def test_texts_word_for_word(self):
        for number, text in (
            ((0, 1), "0"), ((1, 1), "1"), ((-1, 1), "-1"), ((10, 1), "10"), ((-200, 1), "-200"),
            ((1, 2), "0.5"), ((-1, 2), "-0.5"), ((3, 2), "1.5"), ((1, 10), "0.1"),
            ((1, 100), "0.01"), ((-1, 1000), "-0.001"), ((1, 4), "0.25"), ((1, 5), "0.2"),
            ((1, 16), "0.0625"), ((1, 25), "0.04"), ((1, 1024), "0.0009765625"),
            ((1, 3125), "0.00032"), ((101, 100), "1.01"), ((1001, 10), "100.1"),
            ((-2, 3), "-2/3"), ((2, 3), "2/3"), ((1, 6), "1/6"), ((7, 30), "7/30"),
            ((50, 3), "50/3"), ((-100, 7), "-100/7"), ((1, 15), "1/15"),
        ):
            self.same(fraction_text(number), text)
            self.same(fraction_told(text), number)

    def test_texts_of_small_fractions(self):
        for top in range(-40, 41):
            for bottom in range(1, 130):
                if is_fraction((top, bottom)):
                    self.right_text((top, bottom))

    def test_texts_of_long_fractions(self):
        chance = random.Random(8)
        for digits in (5, 20, 63, 64, 65, 90, 128, 190):
            for _ in range(12):
                top = chance.randint(10 ** (digits - 1), 10 ** digits) * chance.choice((1, -1))
                self.right_text(told(Fraction(top, 1)))
                self.right_text(told(Fraction(top, chance.randint(1, 10 ** digits))))
                self.right_text(told(Fraction(top, 10 ** chance.randint(0, digits))))
                self.right_text(told(Fraction(top, 2 ** chance.randint(0, digits))))
                self.right_text(told(Fraction(top, 5 ** chance.randint(0, digits))))
                self.right_text(told(Fraction(top, 3 * 10 ** (digits - 1))))

    def test_texts_of_four_hundred_digits_end_soon(self):
        for number in (
            (10 ** 400 - 1, 1), (1, 10 ** 398), (-(10 ** 200) - 1, 10 ** 199),
            (10 ** 199 + 1, 10 ** 199 + 2), (1, 2 ** 1300), (1, 5 ** 550), (7, 3 * 10 ** 397),
        ):
            text = self.quick(fraction_text, number)
            self.same(self.quick(fraction_told, text), number)

    def test_texts_of_more_digits_than_python_writes_at_once(self):
        number = (10 ** 6000 + 1, 10 ** 5999)
        text = "10." + "0" * 5998 + "1"
        self.same(self.quick(fraction_text, number), text)
        self.same(self.quick(fraction_told, text), number)
        self.same(self.quick(fraction_told, "1/3" + "0" * 6000), (1, 3 * 10 ** 6000))

    def test_index_of_wrong_texts(self):
        for text, index in (
            ("", 0), (" ", 0), ("\n", 0), ("+1", 0), (".5", 0), ("/3", 0), ("x", 0), ("e", 0),
            (" 1", 0), ("\n1", 0), (".", 0), ("/", 0), ("None", 0),
            ("-", 1), ("--1", 1), ("- 1", 1), ("-.5", 1), ("-/3", 1), ("-x", 1), ("1 ", 1),
            ("1\n", 1), ("1-", 1), ("1e3", 1), ("1,5", 1), ("1_0", 1), ("01", 1), ("00", 1),
            ("0x", 1), ("0/", 1), ("0/3", 1), ("0 ", 1), ("0-", 1),
            ("-0", 2), ("-00", 2), ("-01", 2), ("-0/3", 2), ("-1-", 2), ("0.", 2), ("1.", 2),
            ("1/", 2), ("1..5", 2), ("1./3", 2), ("1/0", 2), ("1/03", 2), ("1/-3", 2),
            ("1//3", 2), ("1/.3", 2), ("1. 5", 2), ("1/ 3", 2), ("1.-5", 2), ("1/+3", 2),
            ("1.0", 3), ("0.0", 3), ("1/1", 3), ("1/2", 3), ("3/4", 3), ("2/5", 3), ("3/3", 3),
            ("6/9", 3), ("6/4", 3), ("-0.", 3), ("1.5.", 3), ("1.5/3", 3), ("1.5-", 3),
            ("1.5 ", 3), ("1.5\n", 3), ("1/3.", 3), ("1/3/3", 3), ("1/3-", 3), ("1/3 ", 3),
            ("1/3\n", 3), ("3/4x", 3), ("6/9 ", 3), ("1.0 ", 3),
            ("-0.0", 4), ("1.50", 4), ("1/10", 4), ("-6/9", 4), ("7/14", 4), ("10/5", 4),
            ("1.500", 5), ("10.00", 5), ("-3/40", 5), ("30/21", 5), ("100/3x", 5),
        ):
            self.raises(InvalidText, fraction_told, text, index=index)

    def test_index_of_long_texts(self):
        for text, index in (
            ("1" * 300 + "x", 300), ("-" + "7" * 399 + ".", 401), ("0." + "0" * 398, 400),
            ("0." + "0" * 300 + "1" * 90 + "/", 392), ("3" * 150 + "/" + "9" * 150, 301),
            ("1/5" + "0" * 300, 303), ("1/" + "7" * 300 + "-", 302),
            ("x" * 20000, 0), ("0" * 20000, 1), ("-" * 20000, 1), (" " * 20000, 0),
            ("1." + "0" * 300 + "x" * 19000, 302),
        ):
            self.raises(InvalidText, fraction_told, text, index=index)
        self.same(fraction_told("1/" + "2" * 398), (1, int("2" * 398)))

    def test_what_is_no_string(self):
        for value in ODD_VALUES:
            if type(value) != str:
                self.raises(InvalidText, fraction_told, value, index=0)
        self.raises(InvalidText, fraction_told, Word("5"), index=0)
        self.raises(InvalidText, fraction_told, (1, 2), index=0)

    def test_all_short_texts_against_all_texts_of_fractions(self):
        # All texts of up to four signs are starts of these, if of any: a bottom takes up to two
        # digits more to have no divisor in common with its top and one unlike 2 and 5, a point
        # one digit more.
        texts = {}
        for top in range(10000):
            for bottom in (1, 10, 100, 1000):
                number = told(Fraction(top, bottom))
                texts[fraction_text(number)] = number
        for top in range(1000):
            most = (10000 if top < 10 else 1000 if top < 100 else 100)
            for bottom in range(1, most):
                number = told(Fraction(top, bottom))
                texts[fraction_text(number)] = number
        texts.update({"-" + text: (-top, bottom) for text, (top, bottom) in texts.items() if top})
        starts = {text[:k] for text in texts for k in range(len(text) + 1)}
        for length in range(5):
            for signs in itertools.product("-./0123456x", repeat=length):
                self.told_or_refused("".join(signs), texts, starts)

    def told_or_refused(self, text, texts, starts):
        if text in texts:
            self.same(fraction_told(text), texts[text], text)
            return
        ends = [k for k in range(len(text)) if text[:k + 1] not in starts]
        self.raises(InvalidText, fraction_told, text, index=ends[0] if ends else len(text))

    def test_texts_with_one_sign_changed(self):
        chance = random.Random(12)
        texts = [fraction_text(number) for number in some_fractions(4, 6, 12)]
        texts += ["0", "-0.125", "10.05", "-3/7", "1000", "0.001", "-20", "123/457"]
        for text in texts:
            for at in range(len(text) + 1):
                for sign in "-./0157 \nx":
                    self.told_or_told_why(text[:at] + sign + text[at:])
                    self.told_or_told_why(text[:at] + sign + text[at + 1:])
                self.told_or_told_why(text[:at])
                self.told_or_told_why(text[:at] + text[at + 1:])
                other = chance.randint(0, len(text))
                self.told_or_told_why(text[:at] + text[other:])

    def told_or_told_why(self, text):
        """Told, if it is the text of the fraction that Python reads in it; else its index."""
        form = POINTS.fullmatch(text) or QUOTIENTS.fullmatch(text)
        number = told(Fraction(text)) if form else None
        if number is not None and fraction_text(number) == text:
            self.same(fraction_told(text), number, text)
        else:
            self.raises(InvalidText, fraction_told, text, index=index_by_form(text))


def index_by_form(text):
    """The index of the first sign at which the forms of texts, cut off anywhere, go on no more."""
    begun = re.compile(r"(-?(0|[1-9][0-9]*)?)|-?(0|[1-9][0-9]*)\.[0-9]*|-?[1-9][0-9]*/([1-9][0-9]*)?")
    for k in range(len(text)):
        if not begun.fullmatch(text[:k + 1]):
            return k
    return len(text)


if __name__ == "__main__":
    unittest.main()
