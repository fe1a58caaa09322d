"""Gates: which touches and moments a reader may be told next."""

from strokeguess.errors import IsDown, Late, NotDown, NoTouch
from strokeguess.touches import OVER_WORDS, is_moment, is_touch


class Gate:
    """Lets pass what may be told next, and refuses all else."""

    def __init__(self):
        # The last moment told, None at first.
        self.last = None
        self._down = {}

    def let_touch(self, thing):
        """Let a touch pass, or refuse it."""
        if not is_touch(thing):
            raise NoTouch()
        moment, finger, word, _, _ = thing
        self._check_moment(moment)
        if word == "down" and finger in self._down:
            raise IsDown(finger)
        if word != "down" and finger not in self._down:
            raise NotDown(finger)
        self.last = moment
        if word == "down":
            self._down[finger] = True
        elif word in OVER_WORDS:
            del self._down[finger]

    def let_moment(self, thing):
        """Let a moment to which time passes pass, or refuse it."""
        if not is_moment(thing):
            raise NoTouch()
        self._check_moment(thing)
        self.last = thing

    def fingers(self):
        """List the fingers that are down, sorted."""
        return sorted(self._down)

    def copy(self):
        """Make another one that lets the same pass."""
        other = Gate()
        other.last = self.last
        other._down = dict(self._down)
        return other

    def _check_moment(self, moment):
        if self.last is not None and moment < self.last:
            raise Late(self.last)
