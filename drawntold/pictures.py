"""Pictures: the marks of data at exact places on axes, and the data told back from them."""

from drawntold.fractions import below, fraction, minus, over, plus, times
from drawntold.meaning import data
from drawntold.ticks import placed, span_of, ticks
from drawntold.values import is_integer

WISHED_TICKS = 5
WHOLE = (100, 1)


def picture(telling, table):
    """The picture of a telling and a table."""
    told = data(telling, table)
    return picture_of(telling[0], told)


def place_on(axis, value):
    """The place of an integer, a fraction or a word on an axis."""
    if axis[0] == "word":
        left, right = band_on(axis, value)
        return _half(plus(left, right))
    number = (value, 1) if is_integer(value) else value
    return placed(number, axis[1], axis[2])


def band_on(axis, word):
    """The ends (left, right) of the band of a word on an axis of words."""
    words = axis[1]
    k = words.index(word)
    return (fraction(100 * k, len(words)), fraction(100 * (k + 1), len(words)))


def told_data(picture):
    """The data of which a picture was made."""
    mark, panels = picture
    hues = hues_of(picture)
    told = []
    for side, axes, marks in panels:
        for x, y, hue in _spots(mark, axes, marks, hues):
            told.append((side, hue, _across_at(axes[0], x), _number_at(axes[1], y)))
    return tuple(told)


def picture_of(mark, told):
    """The picture that a mark makes of right data."""
    if not told:
        return (mark, ())
    axes = (_across_axis(told), _up_axis(mark, told))
    panels = []
    for side in sorted(set([entry[0] for entry in told])):
        entries = [entry for entry in told if entry[0] == side]
        panels.append((side, axes, tuple(_marks(mark, axes, entries, told))))
    return (mark, tuple(panels))


def hues_of(picture):
    """The list of the unlike hues of a picture's marks, ascending."""
    mark, panels = picture
    at = 0 if mark == "line" else -1
    return sorted(set([one[at] for _, _, marks in panels for one in marks]))


def _across_axis(told):
    acrosses = _acrosses(told)
    if not is_integer(acrosses[0]):
        return ("word", tuple(acrosses))
    return _axis_of_numbers([(across, 1) for across in acrosses], False)


def _up_axis(mark, told):
    return _axis_of_numbers([up for _, _, _, up in told], mark == "bar")


def _axis_of_numbers(numbers, with_nought):
    low, high = span_of(tuple(numbers), with_nought)
    _, values = ticks(low, high, WISHED_TICKS)
    return ("number", low, high, values)


def _acrosses(told):
    """The list of the unlike acrosses of data, ascending."""
    return sorted(set([across for _, _, across, _ in told]))


def _marks(mark, axes, entries, told):
    """The list of the marks of a panel's entries, a part of all that is told."""
    if mark == "point":
        return [_spot(axes, across, up) + (hue,) for _, hue, across, up in entries]
    if mark == "line":
        return _lines(axes, entries)
    return _bars(axes, entries, told)


def _spot(axes, across, up):
    return (place_on(axes[0], across), place_on(axes[1], up))


def _lines(axes, entries):
    # Entries of one hue stand one behind another, with their acrosses ascending.
    points = {}
    for _, hue, across, up in entries:
        points.setdefault(hue, []).append(_spot(axes, across, up))
    return [(hue, tuple(points[hue])) for hue in points]


def _bars(axes, entries, told):
    hues = sorted(set([hue for _, hue, _, _ in told]))
    bands = _bands(axes[0], told)
    ground = place_on(axes[1], 0)
    bars = []
    for _, hue, across, up in entries:
        left, right = _part_of(bands[across], hues.index(hue), len(hues))
        top = place_on(axes[1], up)
        low, high = (top, ground) if below(top, ground) else (ground, top)
        bars.append((left, low, right, high, hue))
    return bars


def _bands(axis, told):
    """A dict of the bands of all acrosses."""
    acrosses = _acrosses(told)
    if axis[0] == "word":
        return {word: band_on(axis, word) for word in acrosses}
    half = _half(_gap(axis, acrosses))
    bands = {}
    for across in acrosses:
        place = place_on(axis, across)
        bands[across] = (minus(place, half), plus(place, half))
    return bands


def _gap(axis, acrosses):
    """The least difference of the places of two acrosses on an axis of numbers."""
    if len(acrosses) == 1:
        return WHOLE
    least = min([after - before for before, after in zip(acrosses, acrosses[1:])])
    return over((100 * least, 1), minus(axis[2], axis[1]))


def _part_of(band, j, count):
    """The j-th of so many parts of a band, which are of one width."""
    left, right = band
    width = over(minus(right, left), (count, 1))
    begin = plus(left, times((j, 1), width))
    return (begin, plus(begin, width))


def _half(number):
    return over(number, (2, 1))


def _spots(mark, axes, marks, hues):
    """The list of (x, y, hue), the places of across and up, for each entry of a panel's data."""
    if mark == "point":
        return list(marks)
    if mark == "line":
        return [(x, y, hue) for hue, points in marks for x, y in points]
    ground = place_on(axes[1], 0)
    return [_spot_of_bar(bar, ground, hues) for bar in marks]


def _spot_of_bar(bar, ground, hues):
    left, low, right, high, hue = bar
    # The bar is the j-th part of its band, so that the band's middle is so many widths from left.
    widths = fraction(len(hues) - 2 * hues.index(hue), 2)
    middle = plus(left, times(widths, minus(right, left)))
    return (middle, high if low == ground else low, hue)


def _across_at(axis, place):
    """The across with a place on an axis, a word or an integer."""
    if axis[0] == "word":
        words = axis[1]
        return words[place[0] * len(words) // (100 * place[1])]
    top, _ = _number_at(axis, place)
    return top


def _number_at(axis, place):
    """The fraction with a place on an axis of numbers."""
    low, high = axis[1:3]
    return plus(low, over(times(place, minus(high, low)), WHOLE))
