"""Drafts of scenes: what a scene's text has told up to some row."""

from strokeguess.errors import NoText
from strokeguess.kinds import is_between
from strokeguess.machines import MOST_STATES
from strokeguess.rows import fields_of
from strokeguess.scenes import is_scene

# Which words may begin the row behind one that begins with a word; behind a made wish's there are states.
BEHIND = {
    "": ("part",),
    "part": ("ear", "shelf", "wish", "part", "beside", "heed"),
    "ear": ("shelf", "wish", "part", "beside", "heed"),
    "shelf": ("wish", "part", "beside", "heed"),
    "wish": ("wish", "part", "beside", "heed"),
    "state": ("state", "wish", "part", "beside", "heed"),
    "beside": ("beside", "heed"),
    "heed": ("heed",),
}


class PartDraft:
    """A part, without those in it, that stands so many parts deep."""

    def __init__(self, depth, name, box):
        self.depth = depth
        self.name = name
        self.box = box
        self.ear = None
        self.shelf = None
        # A made wish is a list: its kind, its label, and the list of its machine's states.
        self.wishes = []

    def closed(self, parts):
        """Make the part, with these parts in it."""
        wishes = tuple([_closed_wish(wish) for wish in self.wishes])
        return (self.name, self.box, self.ear, self.shelf, wishes, parts)


class Draft:
    """What rows of a scene's text told so far."""

    def __init__(self):
        self._word = ""
        self._parts = []
        self._beside = []
        self._heeds = []
        # The states of the machine that is told now, None where none is.
        self._states = None

    def take(self, row):
        """Take the next row; tell whether such a row may stand there, whatever else is wrong in it."""
        word, *more = fields_of(row)
        if self.lacks_states():
            may_come = word == "state"
        else:
            may_come = word in BEHIND[self._word]
        self._word = word
        return may_come and self._took(word, more)

    def lacks_states(self):
        """Tell whether states must come yet to which the machine that is told now has steps."""
        return self._states is not None and len(self._states) < _many_states(self._states)

    def is_whole(self):
        """Tell whether nothing more must come."""
        return len(self._parts) > 0 and not self.lacks_states()

    def closed(self):
        """Make the scene that has nothing but what was told, and what must come yet as plain as can be."""
        # By depths: the parts that wait for the part around them.
        waiting = [() for _ in range(len(self._parts) + 1)]
        for part in reversed(self._parts):
            waiting[part.depth] = (part.closed(waiting[part.depth + 1]), *waiting[part.depth])
            waiting[part.depth + 1] = ()
        return (waiting[0][0], tuple(self._beside), tuple(self._heeds))

    def _took(self, word, more):
        """Take what a row has behind its word; tell whether it is as much as must be there."""
        if word == "part":
            return self._took_part(more)
        if word == "ear":
            self._parts[-1].ear = more[0] if more else ""
            return len(more) == 1
        if word == "shelf":
            self._parts[-1].shelf = tuple(more)
        elif word == "wish":
            self._take_wish(more)
        elif word == "state":
            return self._took_state(more)
        elif word == "beside":
            self._beside.append(tuple(more))
        else:
            self._heeds.append(tuple(more))
        return True

    def _took_part(self, more):
        self._states = None
        if len(more) != 6:
            return False
        depth, name, *box = more
        # The first part alone has no part around it.
        least, most = (1, self._parts[-1].depth + 1) if self._parts else (0, 0)
        if not is_between(depth, least, most):
            return False
        self._parts.append(PartDraft(depth, name, tuple(box)))
        return True

    def _take_wish(self, more):
        is_made = len(more) == 2 and more[0] == "made"
        self._states = [] if is_made else None
        self._parts[-1].wishes.append([*more, self._states] if is_made else tuple(more))

    def _took_state(self, more):
        # A wait, and a word and a next for each step.
        if len(more) & 1 == 0:
            return False
        wait, *steps = more
        pairs = tuple([(steps[at], steps[at + 1]) for at in range(0, len(steps), 2)])
        self._states.append((None if wait == "-" else wait, pairs))
        return True


def first_wrong_scene_row(rows):
    """Tell the number of the first row such that no scene's text begins with the rows up to it, or None."""
    if _may_begin(rows):
        return None
    # No text begins with more rows than such that none begins with, so the first one can be closed in on.
    right = 0
    wrong = len(rows)
    while wrong - right > 1:
        half = (right + wrong) // 2
        if _may_begin(rows[:half]):
            right = half
        else:
            wrong = half
    return right


def scene_of(rows):
    """Tell the scene that is written in rows; where none is they are refused."""
    wrong = first_wrong_scene_row(rows)
    if wrong is not None:
        raise NoText(wrong)
    draft = _draft_of(rows)
    if not draft.is_whole():
        raise NoText(len(rows))
    return draft.closed()


def _may_begin(rows):
    """Tell whether some scene's text begins with these rows."""
    if not rows:
        return True
    draft = _draft_of(rows)
    return draft is not None and is_scene(draft.closed())


def _draft_of(rows):
    """Make a draft that took these rows, None where it couldn't take one of them."""
    draft = Draft()
    for row in rows:
        if not draft.take(row):
            return None
    return draft


def _closed_wish(wish):
    """Make a wish of what was told of it; states that must come yet have neither waits nor steps."""
    if isinstance(wish, tuple):
        return wish
    kind, label, states = wish
    lacking = _many_states(states) - len(states)
    return (kind, label, (*states, *[(None, ()) for _ in range(lacking)]))


def _many_states(states):
    """Tell how many states a machine must have that begins with these, one more than any may have at most."""
    goals = [goal for _, steps in states for _, goal in steps if isinstance(goal, int)]
    return max(len(states), min(max(goals, default=0), MOST_STATES) + 1)
