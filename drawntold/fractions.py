"""Fractions: tuples (top, bottom) in lowest terms, and their texts."""

from math import gcd

from drawntold.errors import InvalidFraction, InvalidText
from drawntold.values import is_integer, is_tuple_of


def is_fraction(value):
    """Whether a value is a fraction."""
    if not is_tuple_of(value, 2):
        return False
    top, bottom = value
    return is_integer(top) and is_integer(bottom) and bottom > 0 and gcd(top, bottom) == 1


def fraction(top, bottom):
    """The fraction that two integers make."""
    if not is_integer(top) or not is_integer(bottom) or bottom == 0:
        raise InvalidFraction("top and bottom are integers, bottom is not 0")
    return _reduced(top, bottom)


def plus(one, other):
    """The sum of two fractions."""
    _check_both(one, other)
    return _reduced(one[0] * other[1] + other[0] * one[1], one[1] * other[1])


def minus(one, other):
    """The difference of two fractions."""
    _check_both(one, other)
    return _reduced(one[0] * other[1] - other[0] * one[1], one[1] * other[1])


def times(one, other):
    """The product of two fractions."""
    _check_both(one, other)
    return _reduced(one[0] * other[0], one[1] * other[1])


def over(one, other):
    """One fraction divided by another one."""
    _check_both(one, other)
    if other[0] == 0:
        raise InvalidFraction("nothing is divided by 0")
    return _reduced(one[0] * other[1], one[1] * other[0])


def below(one, other):
    """Whether one fraction is less than another one."""
    _check_both(one, other)
    return one[0] * other[1] < other[0] * one[1]


def sum_of(numbers):
    """The sum of a tuple of fractions."""
    if type(numbers) != tuple or not all(is_fraction(number) for number in numbers):
        raise InvalidFraction("numbers are a tuple of fractions")
    if not numbers:
        return (0, 1)
    top, bottom = _unreduced_total(numbers)
    return _reduced(top, bottom)


def fraction_text(number):
    """The text of a fraction."""
    if not is_fraction(number):
        raise InvalidFraction("number is a fraction")
    top, bottom = number
    places = places_of(bottom)
    if places is None:
        sign = "-" if top < 0 else ""
        return sign + _digits(abs(top)) + "/" + _digits(bottom)
    return text_with_places(number, places)


def fraction_told(text):
    """The fraction that a text tells."""
    if type(text) != str:
        raise InvalidText(0)
    end = _end_of_start(text)
    if end < len(text):
        raise InvalidText(end)
    number = _whole_text_told(text)
    if number is None:
        raise InvalidText(len(text))
    return number


def places_of(bottom):
    """How many digits behind a point tell each fraction with this bottom; None if none do."""
    twos, rest = _divided_out(bottom, 2)
    fives, rest = _divided_out(rest, 5)
    return max(twos, fives) if rest == 1 else None


def text_with_places(number, places):
    """The text of a right fraction with so many digits behind the point, which are enough."""
    top, bottom = number
    sign = "-" if top < 0 else ""
    digits = _digits(abs(top) * power_of_ten(places) // bottom)
    if places == 0:
        return sign + digits
    digits = digits.zfill(places + 1)
    point = len(digits) - places
    return sign + digits[:point] + "." + digits[point:]


def power_of_ten(exponent):
    """Ten to the power of an integer from 0 on."""
    power = 1
    square = 10
    while exponent > 0:
        if exponent % 2 == 1:
            power = power * square
        square = square * square
        exponent = exponent // 2
    return power


def _check_both(one, other):
    if not is_fraction(one) or not is_fraction(other):
        raise InvalidFraction("one and other are fractions")


def _reduced(top, bottom):
    divisor = gcd(top, bottom)
    if bottom < 0:
        divisor = -divisor
    return (top // divisor, bottom // divisor)


def _unreduced_total(numbers):
    """Top and bottom of the sum of one fraction or more, perhaps with a common divisor."""
    # By halves, since a sum of many fractions is long: so few of the steps are over long integers.
    if len(numbers) == 1:
        return numbers[0]
    half = len(numbers) // 2
    top, bottom = _unreduced_total(numbers[:half])
    other_top, other_bottom = _unreduced_total(numbers[half:])
    return (top * other_bottom + other_top * bottom, bottom * other_bottom)


def _divided_out(number, prime):
    """How often a prime divides an integer above 0, and what is left then."""
    count = 0
    while number % prime == 0:
        number = number // prime
        count += 1
    return (count, number)


def _digits(number):
    """The digits of an integer from 0 on."""
    # In blocks, since Python does not write integers of many thousand digits at once.
    block = 10 ** 64
    digits = ""
    while number >= block:
        number, rest = divmod(number, block)
        digits = str(rest).zfill(64) + digits
    return str(number) + digits


def _integer(digits):
    """The integer that has these digits, one or more."""
    # In blocks, as in _digits; the first one is what is too much for whole blocks.
    first = len(digits) % 64
    number = int(digits[:first]) if first > 0 else 0
    for start in range(first, len(digits), 64):
        number = number * 10 ** 64 + int(digits[start:start + 64])
    return number


def _end_of_start(text):
    """The length of the longest start of the text that is the start of some fraction's text."""
    at = 1 if text.startswith("-") else 0
    if text[at:at + 1] == "0":
        at += 1
        # A 0 ahead is needless unless a point follows, and 0 over something is 0.
        return _end_of_digits(text, at + 1) if text[at:at + 1] == "." else at
    end = _end_of_digits(text, at)
    mark = text[end:end + 1]
    if end == at or mark not in (".", "/"):
        return end
    if mark == "/" and text[end + 1:end + 2] == "0":
        return end + 1
    # More digits make a text of both, of a quotient with a long prime as its bottom.
    return _end_of_digits(text, end + 1)


def _end_of_digits(text, at):
    """The index of the first sign from at on that is no digit."""
    while at < len(text) and "0" <= text[at] <= "9":
        at += 1
    return at


def _whole_text_told(text):
    """The fraction of a text that has no wrong sign; None if it ends too early."""
    sign = -1 if text.startswith("-") else 1
    digits = text[1:] if sign < 0 else text
    if "/" in digits:
        number = _quotient_told(digits)
    elif "." in digits:
        number = _point_told(digits)
    else:
        number = _integer_told(digits)
    if number is None or (sign < 0 and number[0] == 0):
        return None
    return (sign * number[0], number[1])


def _quotient_told(digits):
    top, _, bottom = digits.partition("/")
    if bottom == "":
        return None
    number = (_integer(top), _integer(bottom))
    return number if is_fraction(number) and places_of(number[1]) is None else None


def _point_told(digits):
    whole, _, behind = digits.partition(".")
    if behind == "" or behind.endswith("0"):
        return None
    return _reduced(_integer(whole + behind), power_of_ten(len(behind)))


def _integer_told(digits):
    return None if digits == "" else (_integer(digits), 1)
