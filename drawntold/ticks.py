"""Axes of numbers: their ends, places on them, their ticks and the texts of these."""

from drawntold.errors import InvalidCount, InvalidFraction, InvalidPart
from drawntold.fractions import (
    below, fraction, is_fraction, minus, over, places_of, plus, power_of_ten, text_with_places, times,
)
from drawntold.values import is_between

FEWEST_VALUES = 2
MOST_VALUES = 10


def steps_within(low, high):
    """The ascending tuple of all steps with 2 to 10 values on an axis."""
    _check_fractions((low, high))
    _check_ends(low, high)
    return tuple([step for step, _, _ in _steps(low, high)])


def ticks(low, high, wished):
    """The step whose number of values is nearest to the one wished, and the tuple of its values."""
    _check_fractions((low, high))
    if not is_between(wished, FEWEST_VALUES, MOST_VALUES):
        raise InvalidCount("wished is an integer from 2 to 10")
    _check_ends(low, high)
    steps = _steps(low, high)
    best = steps[0]
    for told in steps:
        if _distance(told, wished) <= _distance(best, wished):
            best = told
    step, first, count = best
    return (step, tuple([times((first + k, 1), step) for k in range(count)]))


def span_of(numbers, with_nought):
    """The ends of an axis for a tuple of fractions."""
    _check_numbers(numbers)
    if type(with_nought) != bool:
        raise InvalidPart("with_nought is True or False")
    low = high = (0, 1) if with_nought else numbers[0]
    for number in numbers:
        low = number if below(number, low) else low
        high = number if below(high, number) else high
    return (low, plus(low, (1, 1)) if low == high else high)


def placed(number, low, high):
    """The place of a number on an axis, from 0 at the low end to 100 at the high one."""
    _check_fractions((number, low, high))
    _check_ends(low, high)
    return over(times((100, 1), minus(number, low)), minus(high, low))


def tick_texts(numbers):
    """The tuple of the texts of fractions, all with as many digits behind the point."""
    _check_numbers(numbers)
    places = [places_of(bottom) for _, bottom in numbers]
    if None in places:
        raise InvalidPart("some number has no end of digits")
    most = max(places)
    return tuple([text_with_places(number, most) for number in numbers])


def _check_fractions(values):
    if not all(is_fraction(value) for value in values):
        raise InvalidFraction("an axis has fractions as its ends, and on it")


def _check_numbers(numbers):
    if type(numbers) != tuple or not numbers:
        raise InvalidFraction("numbers are a tuple of one fraction or more")
    _check_fractions(numbers)


def _check_ends(low, high):
    if not below(low, high):
        raise InvalidPart("low is below high")


def _steps(low, high):
    """The ascending list of (step, first, count): its values are count multiples from the first."""
    middle = _exponent_near(minus(high, low))
    found = []
    # A step with 2 to 10 values is above an 11th of the length and not above it; _exponent_near
    # leaves these to four powers of ten.
    for exponent in range(middle - 2, middle + 2):
        for digit in (1, 2, 5):
            step = _step(digit, exponent)
            first = -_floor_over(minus((0, 1), low), step)
            count = _floor_over(high, step) - first + 1
            if FEWEST_VALUES <= count <= MOST_VALUES:
                found.append((step, first, count))
    return found


def _exponent_near(length):
    """The exponent of a power of ten that is above a 20th and below the double of a length."""
    top, bottom = length
    # A length is above 2 ** (bits - 1) and below 2 ** (bits + 1), and a bit is 0.30103 of a digit.
    bits = top.bit_length() - bottom.bit_length()
    return bits * 30103 // 100000


def _step(digit, exponent):
    if exponent < 0:
        return fraction(digit, power_of_ten(-exponent))
    return (digit * power_of_ten(exponent), 1)


def _floor_over(number, step):
    """The greatest integer that is not above a number divided by a step."""
    return number[0] * step[1] // (number[1] * step[0])


def _distance(told, wished):
    _, _, count = told
    return abs(count - wished)
