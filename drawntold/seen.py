"""Seen: what is hidden in a picture, the areas of its bars, and what is warned of."""

from drawntold.errors import Refused
from drawntold.fractions import minus, times
from drawntold.meaning import data, groups, kept_in
from drawntold.pictures import picture


def hidden(telling, table):
    """The ascending tuple of (panel index, mark index) of the points that later ones lie over."""
    found = []
    for index, marks in enumerate(_points(telling, table)):
        # The last mark of a place is the one that is left here.
        lasts = {(x, y): k for k, (x, y, _) in enumerate(marks)}
        found.extend([(index, k) for k, (x, y, _) in enumerate(marks) if lasts[(x, y)] != k])
    return tuple(found)


def piles(telling, table):
    """The tuple of (panel index, x, y, hues) of the places with more than one point."""
    found = []
    for index, marks in enumerate(_points(telling, table)):
        hues = {}
        for x, y, hue in marks:
            hues.setdefault((x, y), []).append(hue)
        found.extend([(index,) + place + (tuple(hues[place]),) for place in hues if len(hues[place]) > 1])
    return tuple(found)


def areas(telling, table):
    """The tuple, for each panel, of the tuple of its bars' areas."""
    mark, panels = picture(telling, table)
    if mark != "bar":
        raise Refused("bars alone have areas")
    return tuple([tuple([_area(bar) for bar in marks]) for _, _, marks in panels])


def warned(telling, table):
    """The tuple of the words that hold of what a telling and a table draw."""
    told = data(telling, table)
    ups = [up for _, _, _, up in told]
    found = (
        ("empty", not told),
        ("piled", hidden(telling, table) != ()),
        ("single", _has_line_of_one(telling, table)),
        ("flat", len(set(ups)) == 1),
        ("cut", telling[0] != "bar" and _are_on_one_side(ups)),
        ("dropped", len(kept_in(telling, table)) < len(table[1])),
        ("folded", telling[3][0] != "each" and _has_group_of_many(telling, table)),
    )
    return tuple([word for word, is_so in found if is_so])


def _points(telling, table):
    """The list of each panel's marks of a picture of points, empty of another picture."""
    mark, panels = picture(telling, table)
    return [marks for _, _, marks in panels] if mark == "point" else []


def _area(bar):
    left, low, right, high, _ = bar
    return times(minus(right, left), minus(high, low))


def _has_line_of_one(telling, table):
    mark, panels = picture(telling, table)
    if mark != "line":
        return False
    return any(len(points) == 1 for _, _, marks in panels for _, points in marks)


def _are_on_one_side(ups):
    """Whether there are ups, all of them above 0 or all below 0."""
    if not ups:
        return False
    return all(top > 0 for top, _ in ups) or all(top < 0 for top, _ in ups)


def _has_group_of_many(telling, table):
    return any(len(amounts) > 1 for _, _, _, amounts in groups(telling, table))
