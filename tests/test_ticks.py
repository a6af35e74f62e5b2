"""[12], with [2], [3], [4]: axes of numbers, steps and ticks."""

import itertools
import random
import unittest
from fractions import Fraction

from drawntold import ticks as ticks_module
from drawntold.errors import InvalidCount, InvalidFraction, InvalidPart
from drawntold.fractions import fraction, is_fraction, minus, times
from drawntold.ticks import placed, span_of, steps_within, tick_texts, ticks
from helper import ODD_VALUES, Case, Number, Row

EXAMPLES = """
>>> [ticks((0, 1), (7, 1), 5), ticks((1, 4), (5, 4), 3), steps_within((0, 1), (7, 1))]
[((2, 1), ((0, 1), (2, 1), (4, 1), (6, 1))), ((1, 2), ((1, 2), (1, 1))), ((1, 1), (2, 1), (5, 1))]
>>> [span_of(((3, 1), (5, 2)), True), span_of(((3, 1), (3, 1)), False), placed((1, 1), (0, 1), (8, 1))]
[((0, 1), (3, 1)), ((3, 1), (4, 1)), (25, 2)]
>>> tick_texts(((-1, 2), (0, 1), (3, 20)))
('-0.50', '0.00', '0.15')
"""

WRONG_FRACTIONS = ODD_VALUES + (
    (2, 4), (1, 0), (0, 2), (1, -2), (1.0, 1), ("1", 1), (1, 1, 1), [1, 2], (True, 1), (1, True),
    (Number(1), 2), Row((1, 2)), ((1, 1), (2, 1)), Fraction(1, 2), 1.5,
)
ZERO = (0, 1)
SEVEN = (7, 1)
GREAT = (10 ** 89 + 7, 1)
TINY = (1, 10 ** 89)


def some_ends(seed, count):
    """So many pairs of ends, low below high."""
    chance = random.Random(seed)
    while count > 0:
        scale = 10 ** chance.choice((0, 0, 1, 2, 3, 7))
        ends = [
            fraction(chance.randint(-scale * 20, scale * 20), chance.choice((1, 1, 2, 3, 7, 10, 999, 10 ** 5)))
            for _ in range(2)
        ]
        low, high = sorted(ends, key=lambda end: Fraction(*end))
        if low != high:
            count -= 1
            yield low, high


def counted(low, high):
    """All (step, values) with 2 to 10 values, found by counting along each step up and down."""
    low, high = Fraction(*low), Fraction(*high)
    found = []
    for exponent in range(-12, 13):
        for digit in (1, 2, 5):
            step = digit * Fraction(10) ** exponent
            # Steps that are far too short or too long are passed over, by halves and doubles.
            if not (high - low) / 12 <= step <= (high - low) * 2:
                continue
            value = low // step * step
            values = []
            while value <= high:
                if value >= low:
                    values.append(value)
                value += step
            if 2 <= len(values) <= 10:
                found.append((step, values))
    return found


def pair(number):
    return (number.numerator, number.denominator)


def first_digit(number):
    """What is left of a number above 0 without its power of ten, from 1 on and below 10."""
    while number >= 10:
        number /= 10
    while number < 1:
        number *= 10
    return number


class StepTests(Case):
    def test_examples_of_the_document(self):
        self.examples(EXAMPLES, dict(vars(ticks_module)))

    def test_steps_and_ticks_are_those_that_counting_finds(self):
        for low, high in some_ends(20, 700):
            found = counted(low, high)
            self.same(steps_within(low, high), tuple(pair(step) for step, _ in found), (low, high))
            for wished in range(2, 11):
                step, values = min(found, key=lambda told: (abs(len(told[1]) - wished), -told[0]))
                wanted = (pair(step), tuple(pair(value) for value in values))
                self.same(ticks(low, high, wished), wanted, (low, high, wished))

    def test_steps_worked_out_by_hand(self):
        for low, high, wanted in (
            (ZERO, (1, 1), ((1, 5), (1, 2), (1, 1))),
            (ZERO, (9, 1), ((1, 1), (2, 1), (5, 1))),
            (ZERO, (10, 1), ((2, 1), (5, 1), (10, 1))),
            ((1, 2), (19, 2), ((1, 1), (2, 1))),
            ((1, 1), (10, 1), ((1, 1), (2, 1), (5, 1))),
            ((-1, 1), (1, 1), ((1, 2), (1, 1))),
            ((-3, 1), (-1, 1), ((1, 2), (1, 1))),
            ((1, 3), (2, 3), ((1, 20), (1, 10), (1, 5))),
            ((99, 1), (101, 1), ((1, 2), (1, 1))),
            ((999, 1000), (1, 1), ((1, 5000), (1, 2000), (1, 1000))),
            ((-10 ** 6, 1), (10 ** 6, 1), ((500000, 1), (10 ** 6, 1))),
        ):
            self.same(steps_within(low, high), wanted, (low, high))
            self.same(counted(low, high)[0][0], Fraction(*wanted[0]))

    def test_each_number_wished(self):
        ends = (ZERO, (9, 1))
        ones, twos = tuple((k, 1) for k in range(10)), tuple((k, 1) for k in range(0, 10, 2))
        fives = (ZERO, (5, 1))
        for wished, step, values in (
            (2, (5, 1), fives), (3, (5, 1), fives), (4, (2, 1), twos), (5, (2, 1), twos),
            (6, (2, 1), twos), (7, (2, 1), twos), (8, (1, 1), ones), (9, (1, 1), ones),
            (10, (1, 1), ones),
        ):
            self.same(ticks(*ends, wished), (step, values), wished)

    def test_of_several_as_near_the_greatest_step_is_told(self):
        # 5 values by twos, 3 by fives: 4 is as near to both.
        self.same(steps_within(ZERO, (10, 1)), ((2, 1), (5, 1), (10, 1)))
        self.same(ticks((1, 1), (10, 1), 4)[0], (2, 1))
        self.same(ticks((-1, 1), (10, 1), 4), ((5, 1), (ZERO, (5, 1), (10, 1))))
        # 7 by twos, 3 by fives: 5 is as near to both; 2 by tens.
        self.same(ticks((-2, 1), (10, 1), 5), ((5, 1), (ZERO, (5, 1), (10, 1))))

    def test_great_and_tiny_ends(self):
        self.same(ticks(ZERO, TINY, 2), ((1, 10 ** 89), (ZERO, TINY)))
        self.same(steps_within(ZERO, TINY), (fraction(2, 10 ** 90), fraction(5, 10 ** 90), TINY))
        self.same(steps_within(ZERO, (10 ** 89, 1)), tuple((n * 10 ** 88, 1) for n in (2, 5, 10)))
        self.same(ticks((10 ** 89, 1), GREAT, 8),
                  ((1, 1), tuple((10 ** 89 + k, 1) for k in range(8))))
        self.same(ticks((-10 ** 89 - 7, 1), (-10 ** 89, 1), 4),
                  ((2, 1), tuple((-10 ** 89 + k, 1) for k in (-6, -4, -2, 0))))
        self.same(steps_within(ZERO, GREAT), tuple((n * 10 ** 88, 1) for n in (2, 5, 10)))
        near = minus((1, 1), TINY)
        self.same(ticks(near, (1, 1), 3)[1][-1], (1, 1))
        self.same(ticks(near, (1, 1), 6)[0], fraction(2, 10 ** 90))
        wide = ticks(times((-1, 1), GREAT), GREAT, 5)
        self.same(wide[0], (5 * 10 ** 88, 1))
        self.same(len(wide[1]), 5)

    def test_lengths_about_each_power_of_two_and_ten(self):
        for exponent in range(0, 90, 3):
            for base in (2 ** exponent, 10 ** exponent):
                for top in (base - 1, base, base + 1, 3 * base):
                    for length in ((top, 1), fraction(1, max(1, top)), fraction(top, base + 7)):
                        if length[0] > 0:
                            self.steps_are_right(ZERO, length)
                            self.steps_are_right(minus(ZERO, length), length)

    def steps_are_right(self, low, high):
        """Steps ascend, and have 2 to 10 values; the next ones beyond have not."""
        told = [Fraction(*step) for step in steps_within(low, high)]
        self.assertGreaterEqual(len(told), 1)
        self.assertEqual(told, sorted(set(told)))
        low, high = Fraction(*low), Fraction(*high)
        for step in told:
            self.assertIn(first_digit(step), (1, 2, 5))
            self.assertIn(high // step + (-low) // step + 1, range(2, 11))
        for factor in (Fraction(1, 2), Fraction(2, 5), Fraction(2), Fraction(5, 2)):
            for step in (told[0] * factor, told[-1] * factor):
                if first_digit(step) in (1, 2, 5) and step not in told:
                    self.assertNotIn(high // step + (-low) // step + 1, range(2, 11))

    def test_fact_a(self):
        chance = random.Random(21)
        for low, high in some_ends(22, 300):
            wished = chance.randint(2, 10)
            step, values = ticks(low, high, wished)
            self.assertIn(step, steps_within(low, high))
            self.assertTrue(2 <= len(values) <= 10)
            for value, following in itertools.pairwise(values):
                self.same(minus(following, value), step)
            self.assertLess(Fraction(*values[0]) - Fraction(*step), Fraction(*low))
            self.assertGreaterEqual(Fraction(*values[0]), Fraction(*low))
            self.assertGreater(Fraction(*values[-1]) + Fraction(*step), Fraction(*high))
            self.assertLessEqual(Fraction(*values[-1]), Fraction(*high))
            turned = ticks(minus(ZERO, high), minus(ZERO, low), wished)
            self.same(turned, (step, tuple(minus(ZERO, value) for value in reversed(values))))
            for factor in ((10, 1), (1, 10), (10 ** 40, 1), (1, 10 ** 40)):
                grown = ticks(times(low, factor), times(high, factor), wished)
                wanted = (times(step, factor), tuple(times(value, factor) for value in values))
                self.same(grown, wanted)


class SpanTests(Case):
    def test_least_and_greatest(self):
        for numbers, without, with_nought in (
            (((3, 1), (5, 2)), ((5, 2), (3, 1)), (ZERO, (3, 1))),
            (((-3, 1), (-5, 2)), ((-3, 1), (-5, 2)), ((-3, 1), ZERO)),
            (((-1, 3), (1, 3), (1, 2)), ((-1, 3), (1, 2)), ((-1, 3), (1, 2))),
            (((3, 1),), ((3, 1), (4, 1)), (ZERO, (3, 1))),
            (((-3, 2), (-3, 2)), ((-3, 2), (-1, 2)), ((-3, 2), ZERO)),
            ((ZERO,), (ZERO, (1, 1)), (ZERO, (1, 1))),
            ((ZERO, ZERO), (ZERO, (1, 1)), (ZERO, (1, 1))),
            (((-1, 1),), ((-1, 1), ZERO), ((-1, 1), ZERO)),
            (((1, 2), ZERO), (ZERO, (1, 2)), (ZERO, (1, 2))),
            ((GREAT, TINY, minus(ZERO, GREAT)), (minus(ZERO, GREAT), GREAT), (minus(ZERO, GREAT), GREAT)),
        ):
            self.same(span_of(numbers, False), without, numbers)
            self.same(span_of(numbers, True), with_nought, numbers)
            self.same(span_of(numbers[::-1], False), without, numbers)

    def test_many_numbers(self):
        chance = random.Random(23)
        for _ in range(200):
            numbers = tuple(
                fraction(chance.randint(-99, 99), chance.randint(1, 9)) for _ in range(chance.randint(1, 9))
            )
            worth = sorted(Fraction(*number) for number in numbers)
            high = worth[-1] if worth[0] < worth[-1] else worth[0] + 1
            self.same(span_of(numbers, False), (pair(worth[0]), pair(high)))
            worth = sorted(worth + [Fraction(0)])
            high = worth[-1] if worth[0] < worth[-1] else worth[0] + 1
            self.same(span_of(numbers, True), (pair(worth[0]), pair(high)))
        self.quick(span_of, tuple(fraction(k, 10 ** 89 + 9) for k in range(1500)), False)

    def test_what_is_no_tuple_of_fractions(self):
        for with_nought in (True, False, None, 1):
            for value in WRONG_FRACTIONS:
                self.raises(InvalidFraction, span_of, (value,), with_nought)
                self.raises(InvalidFraction, span_of, ((1, 2), value), with_nought)
            for value in ODD_VALUES + ((1, 2), [(1, 2)], Row(((1, 2),)), "12"):
                self.raises(InvalidFraction, span_of, value, with_nought)

    def test_with_nought_is_a_truth(self):
        for value in ODD_VALUES + ("True", (True,), Number(1), 2, [False]):
            if type(value) != bool:
                self.raises(InvalidPart, span_of, ((1, 2),), value)


class PlacedTests(Case):
    def test_places_between_and_beyond(self):
        for number, low, high, place in (
            (ZERO, ZERO, (8, 1), ZERO), ((8, 1), ZERO, (8, 1), (100, 1)), ((4, 1), ZERO, (8, 1), (50, 1)),
            ((9, 1), ZERO, (8, 1), (225, 2)), ((-1, 1), ZERO, (8, 1), (-25, 2)),
            ((1, 3), (-1, 3), (1, 1), (50, 1)), ((5, 2), (2, 1), (4, 1), (25, 1)),
            ((-3, 1), (-4, 1), (-1, 1), (100, 3)), (ZERO, (1, 1), (2, 1), (-100, 1)),
            (GREAT, ZERO, GREAT, (100, 1)), (TINY, ZERO, TINY, (100, 1)),
            (TINY, ZERO, (10 ** 89, 1), (1, 10 ** 176)),
        ):
            self.same(placed(number, low, high), place, (number, low, high))

    def test_many_places(self):
        chance = random.Random(24)
        for low, high in some_ends(25, 200):
            number = fraction(chance.randint(-999, 999), chance.randint(1, 30))
            wanted = 100 * (Fraction(*number) - Fraction(*low)) / (Fraction(*high) - Fraction(*low))
            self.same(placed(number, low, high), pair(wanted))
            self.same(placed(low, low, high), ZERO)
            self.same(placed(high, low, high), (100, 1))


class TickTextTests(Case):
    def test_texts_with_as_few_digits_as_tell_all(self):
        for numbers, texts in (
            ((ZERO,), ("0",)), (((7, 1), (-12, 1), (1000, 1)), ("7", "-12", "1000")),
            (((1, 2), (1, 1)), ("0.5", "1.0")), (((1, 4), (3, 2), (-2, 1)), ("0.25", "1.50", "-2.00")),
            (((1, 8), (1, 5)), ("0.125", "0.200")), (((-1, 100), ZERO), ("-0.01", "0.00")),
            (((-1, 1000), (10, 1)), ("-0.001", "10.000")), (((1, 25), (1, 4)), ("0.04", "0.25")),
            (((1, 16), (1, 625)), ("0.0625", "0.0016")), (((201, 20),), ("10.05",)),
            (((20, 1), (100, 1)), ("20", "100")), (((1, 2), (1, 2)), ("0.5", "0.5")),
            ((TINY,), ("0." + "0" * 88 + "1",)), (((10 ** 89, 1), (1, 2)), ("1" + "0" * 89 + ".0", "0.5")),
        ):
            self.same(tick_texts(numbers), texts, numbers)

    def test_texts_of_many_ticks_tell_them(self):
        for low, high in some_ends(26, 200):
            values = ticks(low, high, 5)[1]
            texts = tick_texts(values)
            self.same(tuple(pair(Fraction(text)) for text in texts), values)
            behind = {len(text.partition(".")[2]) for text in texts}
            self.assertEqual(len(behind), 1)
            if behind != {0}:
                self.assertTrue(any(not text.endswith("0") for text in texts))
            else:
                self.assertFalse(any("." in text for text in texts))

    def test_numbers_that_no_digits_tell(self):
        for number in ((1, 3), (-1, 3), (1, 6), (1, 7), (2, 15), (10 ** 80, 3), (1, 10 ** 40 * 7)):
            self.raises(InvalidPart, tick_texts, (number,))
            self.raises(InvalidPart, tick_texts, ((1, 2), number))
            self.raises(InvalidPart, tick_texts, (number, (1, 2)))

    def test_what_is_no_tuple_of_fractions(self):
        for value in WRONG_FRACTIONS:
            self.raises(InvalidFraction, tick_texts, (value,))
            self.raises(InvalidFraction, tick_texts, ((1, 3), value))
        for value in ODD_VALUES + ((1, 2), [(1, 2)], Row(((1, 2),))):
            self.raises(InvalidFraction, tick_texts, value)


class ErrorTests(Case):
    def test_low_and_high_are_fractions(self):
        for value in WRONG_FRACTIONS:
            self.raises(InvalidFraction, steps_within, value, SEVEN)
            self.raises(InvalidFraction, steps_within, ZERO, value)
            for wished in (5, 1, None):
                self.raises(InvalidFraction, ticks, value, SEVEN, wished)
                self.raises(InvalidFraction, ticks, ZERO, value, wished)
            for call_ends in ((ZERO, SEVEN), (SEVEN, ZERO), (ZERO, ZERO)):
                self.raises(InvalidFraction, placed, value, *call_ends)
            self.raises(InvalidFraction, placed, ZERO, value, SEVEN)
            self.raises(InvalidFraction, placed, ZERO, ZERO, value)

    def test_wished_is_from_2_to_10(self):
        for wished in ODD_VALUES + (-5, 1, 11, 12, 100, Number(5), "5", (5,), (5, 1), 5.0):
            self.raises(InvalidCount, ticks, ZERO, SEVEN, wished)
            # Also where low is not below high, which is looked for last.
            self.raises(InvalidCount, ticks, SEVEN, ZERO, wished)
        for wished in range(2, 11):
            self.assertTrue(is_fraction(ticks(ZERO, SEVEN, wished)[0]))

    def test_low_is_below_high(self):
        for low, high in ((SEVEN, ZERO), (ZERO, ZERO), (SEVEN, SEVEN), ((1, 2), (1, 3)), (ZERO, (-1, 9)),
                          (GREAT, (10 ** 89, 1)), (TINY, ZERO)):
            self.raises(InvalidPart, steps_within, low, high)
            self.raises(InvalidPart, ticks, low, high, 5)
            self.raises(InvalidPart, placed, ZERO, low, high)

    def test_arguments_by_name(self):
        self.same(steps_within(high=SEVEN, low=ZERO), ((1, 1), (2, 1), (5, 1)))
        self.same(ticks(wished=2, high=SEVEN, low=ZERO), ((5, 1), (ZERO, (5, 1))))
        self.same(span_of(with_nought=True, numbers=(SEVEN,)), (ZERO, SEVEN))
        self.same(placed(high=(100, 1), low=ZERO, number=SEVEN), SEVEN)
        self.same(tick_texts(numbers=(SEVEN, (1, 2))), ("7.0", "0.5"))

    def test_long_fractions_end_soon(self):
        long = fraction(3 ** 20000, 7 ** 9000)
        longer = fraction(3 ** 20000 + 1, 7 ** 9000)
        step, values = self.quick(ticks, long, longer, 5)
        self.assertTrue(2 <= len(values) <= 10)
        self.assertLess(Fraction(*values[0]) - Fraction(*step), Fraction(*long))
        self.quick(tick_texts, ((1, 2 ** 3000), (10 ** 3000, 1)))


if __name__ == "__main__":
    unittest.main()
