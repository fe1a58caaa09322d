"""Plays: plain touches by which a wish comes true, at places of its part where they are read so."""

from strokeguess.errors import NoHope
from strokeguess.likeness import claimed, led
from strokeguess.reader import Reader
from strokeguess.scenes import boxes_of, wishes_of
from strokeguess.touches import LAST_FINGER, LAST_MOMENT, is_touch
from strokeguess.ways import corners

STEP_TIME = 10
TAP_TIME = 50
APART = 40
# Time passes so far behind a play, and ahead of one that a reader is led by.
PLAY_TIME = 11000


def plain(wish, x, y, moment, fingers, *, slop=18):
    """List the plain touches of a wish at a place, from a moment on, by one or both of two fingers."""
    kind = wish[0]
    if kind in ("spread", "turn"):
        return _plain_pair(kind, x, y, moment, fingers)
    finger = fingers[0]
    if kind == "tap":
        return _plain_taps(wish[2], x, y, moment, finger)
    if kind == "press":
        return [(moment, finger, "down", x, y), (moment + wish[2] + STEP_TIME, finger, "up", x, y)]
    if kind == "pull":
        return _plain_pull(wish[2], x, y, moment, finger, slop)
    history = claimed(wish[2])
    return [] if history is None else led(history, x, y, moment, finger, slop=slop)


def play(scene, label, *, slop=18, gap=300):
    """Tell the plain touches by which a label wins in a scene, None where there are none."""
    name, wish = _wish_of(scene, label)
    return _first_play(Reader(scene, slop=slop, gap=gap), name, wish, 0, (0, 1))


def leads(reader, label):
    """Tell the plain touches by which a label can win yet, None where there are none."""
    name, wish = _wish_of(reader.scene, label)
    down = reader.fingers()
    free = [finger for finger in range(LAST_FINGER + 1) if finger not in down]
    if len(free) < 2 or reader.is_out(name):
        return None
    now = reader.moment()
    return _first_play(reader, name, wish, PLAY_TIME if now is None else now + PLAY_TIME, (free[0], free[1]))


def _plain_taps(times, x, y, moment, finger):
    touches = []
    for begin in [moment + TAP_TIME * time for time in range(times)]:
        touches.append((begin, finger, "down", x, y))
        touches.append((begin + STEP_TIME, finger, "up", x, y))
    return touches


def _plain_pull(way, x, y, moment, finger, slop):
    goal = (x, y + slop + 1) if way == "along" else (x + slop + 1, y)
    return [
        (moment, finger, "down", x, y),
        (moment + STEP_TIME, finger, "move", *goal),
        (moment + 2 * STEP_TIME, finger, "up", *goal),
    ]


def _plain_pair(kind, x, y, moment, fingers):
    finger, other = fingers
    goal = (x + 2 * APART, y) if kind == "spread" else (x, y + APART)
    return [
        (moment, finger, "down", x, y),
        (moment, other, "down", x + APART, y),
        (moment + STEP_TIME, other, "move", *goal),
        (moment + 2 * STEP_TIME, finger, "up", x, y),
        (moment + 2 * STEP_TIME, other, "up", *goal),
    ]


def _wish_of(scene, label):
    """Tell the wish of a label, with its part's name ahead of it."""
    for name, wish in wishes_of(scene):
        if wish[1] == label:
            return (name, wish)
    raise NoHope(label)


def _first_play(reader, name, wish, moment, fingers):
    """Tell the first ones of a wish's plain touches at its part's places by which it wins, or None."""
    for x, y in _places_of(reader, name):
        touches = plain(wish, x, y, moment, fingers, slop=reader.slop)
        if _are_won_by(reader, touches, wish[1]):
            return touches
    return None


def _places_of(reader, name):
    """List a part's corner, middle and last corner in the scene's places, as a reader's shelves are."""
    x, y = corners(reader.scene, places=reader.places())[name]
    _, _, wide, high = boxes_of(reader.scene)[name]
    return [(x, y), (x + wide // 2, y + high // 2), (x + wide - 1, y + high - 1)]


def _are_won_by(reader, touches, label):
    """Tell whether touches, told a reader as it is, are a win of a label in a contest of one of their strokes."""
    if not touches or not all([is_touch(touch) for touch in touches]):
        return False
    other = reader.copy()
    for touch in touches:
        other.put(touch)
    other.go(min(touches[-1][0] + PLAY_TIME, LAST_MOMENT))
    for stroke in range(reader.many_strokes(), other.many_strokes()):
        if label in other.labels(stroke) and other.how(stroke, label)[0] == "won":
            return True
    return False
