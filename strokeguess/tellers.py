"""Tellers: what is told of hopes that have won, of the shelves that they pull, and of guesses."""

from strokeguess.hopes import difference
from strokeguess.measures import by_way, flung

PAIR_KINDS = ("spread", "turn")


class Teller:
    """Tells what is read, row by row, and has the shelves take the steps of pulls."""

    def __init__(self, shelves, guessing):
        self.rows = []
        self._shelves = shelves
        self._guessing = guessing
        # Of each hope that has won and is not over, by its number: the place, or difference, of which was told last.
        self._last = {}

    def won(self, hope, moment):
        """Tell of a hope that wins."""
        if hope.wish[0] in ("tap", "made") and hope.is_up:
            self._tell(hope, moment, "tapped", hope.strokes[-1].spot)
            return
        self._tell(hope, moment, "began", ())
        self._last[hope.number] = _place_ahead(hope)
        self._moved(hope, moment)

    def touched(self, hope, touch):
        """Tell of a touch in a contest of a hope, where it has won and is not over."""
        moment, _, word, _, _ = touch
        if hope.number not in self._last:
            return
        if word != "lost":
            self._moved(hope, moment)
        if word == "up":
            self._ended(hope, moment)
        elif word == "lost":
            self.off(hope, moment)

    def off(self, hope, moment):
        """Tell that a hope is off, where it has won and is not over."""
        if hope.number in self._last:
            self._tell(hope, moment, "off", ())
            del self._last[hope.number]

    def kept(self, hope, moment):
        """Tell the guess that a hope's claim is, as it is kept."""
        if self._guessing:
            self._tell(hope, moment, "guess", ())

    def went_out(self, hope, moment):
        """Take back the guess that a hope's claim was, where it goes out behind its claim."""
        if self._guessing and hope.claimed is not None:
            self._tell(hope, moment, "back", ())

    def _tell(self, hope, moment, word, more):
        self.rows.append((moment, hope.label, hope.first_stroke(), word, more))

    def _moved(self, hope, moment):
        """Tell how a hope's fingers moved, where they did."""
        last = self._last[hope.number]
        self._last[hope.number] = _place_now(hope)
        if hope.wish[0] in PAIR_KINDS:
            if last != hope.apart():
                self._tell(hope, moment, "moved", hope.first + hope.apart())
            return
        step = step_of(hope, last)
        if step == (0, 0):
            return
        self._tell(hope, moment, "moved", step)
        if hope.wish[0] == "pull":
            self._pulled(hope, moment, step)

    def _pulled(self, hope, moment, step):
        """Have the shelves take a step of a pull, and tell what they took and what was left over."""
        dx, dy = step
        taken, over = self._shelves.step(hope.name, dx, dy)
        for row in taken:
            self._tell(hope, moment, "shelf", row)
        if over != (0, 0):
            self._tell(hope, moment, "over", over)

    def _ended(self, hope, moment):
        """Tell the end of a hope, by the up of a finger of its."""
        fling = _fling_of(hope)
        if fling == (0, 0):
            self._tell(hope, moment, "ended", ())
        else:
            self._tell(hope, moment, "flung", fling)
        del self._last[hope.number]


def step_of(hope, start):
    """Tell the step from a place to where the finger of a hope of one finger is, by the hope's way."""
    dx, dy = difference(start, hope.strokes[-1].spot)
    return by_way(_way_of(hope), dx, dy)


def _way_of(hope):
    """Tell the way of a hope: of all but pulls any."""
    return hope.wish[2] if hope.wish[0] == "pull" else "any"


def _place_now(hope):
    """Tell the place, or difference, of which is told now."""
    return hope.apart() if hope.wish[0] in PAIR_KINDS else hope.strokes[-1].spot


def _place_ahead(hope):
    """Tell the place from which the first step of a hope that wins is told; None of fingers' differences."""
    if hope.wish[0] in PAIR_KINDS:
        return None
    stroke = hope.strokes[-1]
    return stroke.start if hope.wish[0] == "pull" else stroke.spot


def _fling_of(hope):
    """Tell the (dx, dy) by which a pull is flung at its up, (0, 0) where it, or another hope, isn't."""
    fling = flung(hope.strokes[-1].touches) if hope.wish[0] == "pull" else None
    if fling is None:
        return (0, 0)
    dx, dy = fling
    return by_way(_way_of(hope), dx, dy)
