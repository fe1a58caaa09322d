"""Hopes: for what a wish's hope waits, when it gives up and why, and when it claims.

A hope is asked at each touch of a finger of its strokes (at a down behind its coming), and at the end of each of its
waits; it answers by "claim", by the why of its giving up, or by None. What comes of a claim is not its own affair.
"""

from strokeguess.machines import ENDS, stepped
from strokeguess.measures import is_beyond, is_spread, is_turned

CLAIM = "claim"


class Stroke:
    """What a finger does from a down on: where it went down, where it is, and the touches that it followed."""

    def __init__(self, number, x, y):
        self.number = number
        self.start = (x, y)
        self.spot = (x, y)
        self.touches = []

    def follow(self, touch):
        """Go to where a touch is; a lost one's place counts for nothing."""
        _, _, word, x, y = touch
        self.touches.append(touch)
        if word != "lost":
            self.spot = (x, y)

    def went_beyond(self, way, slop):
        """Tell whether the finger is beyond a slop from where it went down."""
        dx, dy = difference(self.start, self.spot)
        return is_beyond(way, dx, dy, slop)


class Hope:
    """What hopes of all kinds of wishes have in common."""

    def __init__(self, name, wish, slop):
        self.name = name
        self.wish = wish
        self.label = wish[1]
        self.slop = slop
        # How many hopes came ahead of it, as whoever keeps many of them counts.
        self.number = None
        self.strokes = []
        # The finger of its last stroke, as it was when the hope was asked of it last.
        self.is_up = False
        # From which moment the wait is counted that goes on, None where none does.
        self.since = None
        # By the orders of touches: at which one it was asked last, and from which one its wait is counted.
        self.asked = None
        self.counted = None
        self.claimed = None
        self.ending = None

    def first_stroke(self):
        """Tell the number of its first stroke."""
        return self.strokes[0].number

    def stands(self):
        """Tell whether it is neither out nor has won."""
        return self.ending is None

    def fate(self):
        """Tell what there is to tell of it, from ("stands",) to how it was out."""
        if self.ending is not None:
            return self.ending
        return ("stands",) if self.claimed is None else ("kept", self.claimed)

    def win(self, moment):
        """Have won."""
        self.ending = ("won", moment)

    def leave(self, moment, *why):
        """Be out, in all contests at once; behind "to" the label and stroke of the one that won are told."""
        self.ending = ("out", moment, *why)

    def come(self, stroke):
        """Come into the contest of a stroke, whose finger went down now."""
        self.strokes.append(stroke)
        self.is_up = False
        self.since = None

    def waits(self):
        """Tell whether it waits for a finger, so that it comes into a later stroke's contest, too."""
        return self.stands() and self.claimed is None and self._lacks_finger()

    def ask(self, moment, word, order=0):
        """Ask it at a touch of a finger of its strokes, where that stroke follows the touch already.

        Orders are numbers that grow from asking to asking, also from hope to hope: waits at one moment end by them.
        """
        if not self.stands():
            return None
        self.asked = order
        self.is_up = word == "up"
        return self._settled(moment, self._at_touch(moment, word))

    def ends(self):
        """Tell the moment at which its wait ends, None where none goes on."""
        if not self.stands() or self.claimed is not None or self.since is None:
            return None
        wait = self._wait()
        return None if wait is None else self.since + wait

    def end(self):
        """End its wait, at its moment; only where one goes on."""
        moment = self.ends()
        return self._settled(moment, self._at_end(moment))

    def _settled(self, moment, answer):
        """Keep what an answer makes of it, and tell the answer."""
        if answer == CLAIM:
            if self.claimed is not None:
                return None
            self.claimed = moment
        elif answer is not None:
            self.leave(moment, answer)
        return answer

    def _count(self, moment):
        """Begin a wait, counted from the touch at which it is asked now."""
        self.since = moment
        self.counted = self.asked

    def _is_beyond(self, way):
        """Tell whether the finger of its last stroke is beyond the slop."""
        return self.strokes[-1].went_beyond(way, self.slop)

    def _lacks_finger(self):
        """Tell whether it waits for a finger, where it stands and hasn't claimed."""
        return False

    def _wait(self):
        """Tell how long the wait is that goes on, or None."""
        return None

    def _at_touch(self, moment, word):
        """Answer at a touch."""
        return None

    def _at_end(self, moment):
        """Answer at the end of a wait."""
        return None


class Tap(Hope):
    """A hope of a tap, of one to three downs and ups."""

    def __init__(self, name, wish, slop, gap):
        super().__init__(name, wish, slop)
        self.gap = gap
        self.taps = 0

    def _lacks_finger(self):
        return self.is_up

    def _wait(self):
        return self.gap

    def _at_touch(self, moment, word):
        if word == "lost":
            return "lost"
        if self._is_beyond("any"):
            return "moved"
        if word != "up":
            return None
        self.taps += 1
        if self.taps == self.wish[2]:
            return CLAIM
        self._count(moment)
        return None

    def _at_end(self, moment):
        return "late"


class Press(Hope):
    """A hope of a press."""

    def _wait(self):
        return self.wish[2]

    def _at_touch(self, moment, word):
        if word == "down":
            self._count(moment)
            return None
        if word == "lost":
            return "lost"
        if self.claimed is None and self._is_beyond("any"):
            return "moved"
        return "up" if word == "up" else None

    def _at_end(self, moment):
        return CLAIM


class Pull(Hope):
    """A hope of a pull."""

    def _at_touch(self, moment, word):
        if word in ("up", "lost"):
            return word
        return CLAIM if word == "move" and self._is_beyond(self.wish[2]) else None


class Pair(Hope):
    """A hope of a spread or a turn, of two fingers."""

    def __init__(self, name, wish, slop):
        super().__init__(name, wish, slop)
        self.first = None

    def come(self, stroke):
        """Come into the contest of a stroke; behind the second one there is a first difference."""
        super().come(stroke)
        if len(self.strokes) == 2:
            self.first = self.apart()

    def apart(self):
        """Tell the difference of its two fingers, the second one's place less the first one's."""
        return difference(self.strokes[0].spot, self.strokes[1].spot)

    def _lacks_finger(self):
        # It gives up at the first one's up, so that finger is down.
        return len(self.strokes) == 1

    def _at_touch(self, moment, word):
        if word in ("up", "lost"):
            return word
        return CLAIM if word == "move" and self._is_apart() else None

    def _is_apart(self):
        """Tell whether its fingers are spread, or turned, from the first difference."""
        if self.first is None:
            return False
        if self.wish[0] == "spread":
            return is_spread(self.first, self.apart())
        return is_turned(self.first, self.apart())


class Made(Hope):
    """A hope of a made wish, which goes by its machine."""

    def __init__(self, name, wish, slop):
        super().__init__(name, wish, slop)
        self.machine = wish[2]
        self.state = 0

    def _lacks_finger(self):
        return self.is_up and self._takes_down()

    def _wait(self):
        return self.machine[self.state][0]

    def _at_touch(self, moment, word):
        if word == "lost":
            return "lost"
        if self.claimed is not None:
            return "up" if word == "up" else None
        if word == "down":
            return self._begun(moment)
        if not self._is_beyond("any"):
            return self._took(moment, "up") if word == "up" else None
        return "made" if word == "up" else self._took(moment, "out")

    def _at_end(self, moment):
        return self._took(moment, "wait")

    def _begun(self, moment):
        """Answer at a down: the first one begins state 0, a later one is a word."""
        if len(self.strokes) > 1:
            return self._took(moment, "down")
        self.counted = self.asked
        return self._entered(moment, 0)

    def _took(self, moment, word):
        """Take the step of a word."""
        # Behind waits that ended it is still counted from the word ahead of them.
        if word != "wait":
            self.counted = self.asked
        goal = stepped(self.machine, self.state, word)
        if goal in ENDS:
            return CLAIM if goal == "claim" else "made"
        return self._entered(moment, goal)

    def _entered(self, moment, state):
        """Come into a state; one in which nothing can come any more gives up."""
        self.state = state
        self.since = moment
        if self.is_up and self._wait() is None and not self._takes_down():
            return "made"
        return None

    def _takes_down(self):
        """Tell whether its state has a step by "down"."""
        return stepped(self.machine, self.state, "down") is not None


def hope_for(name, wish, older, slop, gap):
    """Tell which hope of a part's wish comes into a contest at a down: of the older ones of it, or a new one."""
    waiting = [hope for hope in older if hope.waits()]
    if waiting:
        return min(waiting, key=lambda one: one.first_stroke())
    return new_hope(name, wish, slop, gap)


def new_hope(name, wish, slop, gap):
    """Make a new hope of a part's wish."""
    kind = wish[0]
    if kind == "tap":
        return Tap(name, wish, slop, gap)
    if kind == "press":
        return Press(name, wish, slop)
    if kind == "pull":
        return Pull(name, wish, slop)
    if kind == "made":
        return Made(name, wish, slop)
    return Pair(name, wish, slop)


def difference(place, other):
    """Tell by how much another place differs from a first one."""
    x, y = place
    other_x, other_y = other
    return (other_x - x, other_y - y)
