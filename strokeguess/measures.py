"""Measures: how far is beyond a slop, and which differences are spread, turned or flung."""

# A stroke is flung by how far it went since a moment so far ahead of its up.
FLING_TIME = 100
FLING_SLOP = 50


def is_beyond(way, dx, dy, slop):
    """Tell whether a difference of two places is beyond a slop, by "any", "across" or "along"."""
    if way == "across":
        return abs(dx) > slop
    if way == "along":
        return abs(dy) > slop
    return dx * dx + dy * dy > slop * slop


def by_way(way, dx, dy):
    """Tell what of a difference goes by a way: by "across" and "along" the other one counts for nothing."""
    if way == "across":
        return (dx, 0)
    return (0, dy) if way == "along" else (dx, dy)


def is_spread(first, other):
    """Tell whether two fingers' difference is spread, or drawn together, from a first one to another."""
    before = _square(first)
    behind = _square(other)
    return 16 * behind > 25 * before or 25 * behind < 16 * before


def is_turned(first, other):
    """Tell whether two fingers' difference is turned from a first one to another."""
    fx, fy = first
    x, y = other
    return abs(fx * y - fy * x) > fx * x + fy * y


def flung(touches):
    """Tell, of a stroke's touches to its up, the (dx, dy) by which it is flung, or None."""
    if not touches or touches[-1][2] != "up":
        return None
    moment, _, _, x, y = touches[-1]
    start = touches[0]
    for touch in touches:
        if touch[0] <= moment - FLING_TIME:
            start = touch
    _, _, _, from_x, from_y = start
    dx, dy = x - from_x, y - from_y
    return (dx, dy) if is_beyond("any", dx, dy, FLING_SLOP) else None


def _square(difference):
    """Tell the square of how long a difference is."""
    x, y = difference
    return x * x + y * y
