"""Touches: what is one, which rows of them are right, and the strokes of which a row is made."""

from strokeguess.kinds import is_between, is_coordinate, is_row

LAST_MOMENT = 1000000000
LAST_FINGER = 9
TOUCH_WORDS = ("down", "move", "up", "lost")
OVER_WORDS = ("up", "lost")


def is_moment(thing):
    """Tell of anything whether it is a moment."""
    return is_between(thing, 0, LAST_MOMENT)


def is_touch(thing):
    """Tell of anything whether it is a touch."""
    if not is_row(thing, 5):
        return False
    moment, finger, word, x, y = thing
    if not is_moment(moment) or not is_between(finger, 0, LAST_FINGER):
        return False
    return word in TOUCH_WORDS and is_coordinate(x) and is_coordinate(y)


def first_wrong(touches):
    """Tell the number of the first touch that isn't right behind those ahead of it, or None."""
    last = 0
    fingers = set()
    for at, touch in enumerate(touches):
        if not is_touch(touch):
            return at
        moment, finger, word, _, _ = touch
        if moment < last or (word == "down") == (finger in fingers):
            return at
        last = moment
        if word == "down":
            fingers.add(finger)
        elif word in OVER_WORDS:
            fingers.discard(finger)
    return None


def strokes_of(touches):
    """List the touches of each stroke, the strokes in the order of their downs."""
    strokes = []
    going = {}
    for touch in touches:
        _, finger, word, _, _ = touch
        if word == "down":
            going[finger] = []
            strokes.append(going[finger])
        # Where a row isn't right, a finger that isn't down has no stroke.
        if finger in going:
            going[finger].append(touch)
        if word in OVER_WORDS:
            going.pop(finger, None)
    return strokes
