"""The desk: a reader whose deeds can be cut back, watched and written."""

from strokeguess.drafts import scene_of
from strokeguess.errors import IsDown, Late, NoCount, NoPart, NoText, NotDown, NoTouch, NoWatch
from strokeguess.kinds import is_between
from strokeguess.reader import Reader
from strokeguess.rows import fields_of, row_of, rows_of, touch_of
from strokeguess.texts import show_scene
from strokeguess.touches import is_moment

MOST_SLOP = 1000
MOST_GAP = 10000


class Desk:
    """Tells what a reader does, and more."""

    def __init__(self, scene, *, slop=18, gap=300, guessing=False):
        self._reader = Reader(scene, slop=slop, gap=gap, guessing=guessing)
        # By their words: from which row of what is told a watcher hears, and which labels.
        self._watchers = {}

    def put(self, touch):
        """Be told a touch; tell what was read by it."""
        return self._reader.put(touch)

    def go(self, moment):
        """Be told a moment to which time passes; tell what was read by it."""
        return self._reader.go(moment)

    def several(self, rows):
        """Be told touches and moments, all or none; tell what was read by them."""
        gate = self._reader.gate()
        for row in rows:
            if is_moment(row):
                gate.let_moment(row)
            else:
                gate.let_touch(row)
        found = []
        for row in rows:
            found.extend(self.go(row) if is_moment(row) else self.put(row))
        return found

    def out(self, name):
        """Take out a part with those in it; tell what was read by it."""
        return self._reader.out(name)

    def back(self):
        """Put back the part that was taken out last."""
        self._reader.back()

    def cut(self, count):
        """Be as it was behind so many deeds."""
        most = self.many()
        if not is_between(count, 0, most):
            raise NoCount(most)
        self._reader = self._reader.behind(count)

    def many(self):
        """Tell how many deeds there were."""
        return len(self._reader.deeds)

    def watch(self, word, labels):
        """Put a watcher, who hears what is told of these labels from now on."""
        if word in self._watchers:
            raise NoWatch(word)
        self._watchers[word] = (len(self.told()), list(labels))

    def drop(self, word):
        """Drop a watcher."""
        if word not in self._watchers:
            raise NoWatch(word)
        del self._watchers[word]

    def watched(self, word):
        """List what a watcher heard."""
        if word not in self._watchers:
            raise NoWatch(word)
        start, labels = self._watchers[word]
        return [row for row in self.told()[start:] if row[1] in labels]

    def told(self):
        """List all that was read."""
        return self._reader.told()

    def how(self, stroke, label):
        """Tell how the hope of a label in a stroke's contest is."""
        return self._reader.how(stroke, label)

    def places(self):
        """Tell the places of all shelves whose parts aren't out, by their parts."""
        return self._reader.places()

    def shown(self):
        """Tell the places as they would be if all pulls whose claims are kept had won."""
        return self._reader.shown()

    def heard(self):
        """List which part heard which finger's touches."""
        return self._reader.heard()

    def written(self):
        """Write the scene, how it is read, and all deeds."""
        reader = self._reader
        by = ["slop", reader.slop, "gap", reader.gap]
        if reader.guessing:
            by.append("guessing")
        deeds = [_deed_row(word, thing) for word, thing in reader.deeds]
        return "\n".join([show_scene(reader.scene), "", row_of(by), *deeds])


def read_desk(text):
    """Read a desk as it was written."""
    rows = rows_of(text)
    if "" not in rows:
        # What there is must begin a scene's text; then the row without signs must come yet.
        scene_of(rows)
        raise NoText(len(rows))
    end = rows.index("")
    scene = scene_of(rows[:end])
    if len(rows) == end + 1:
        raise NoText(len(rows))
    desk = _empty_desk(scene, rows[end + 1])
    if desk is None:
        raise NoText(end + 1)
    for at in range(end + 2, len(rows)):
        if not _is_done(desk, rows[at]):
            raise NoText(at)
    return desk


def _deed_row(word, thing):
    """Write a deed as a row."""
    if word == "put":
        return row_of(thing)
    return word if word == "back" else row_of((word, thing))


def _empty_desk(scene, row):
    """Make a desk of a scene, and of a row that tells how it is read; None where it doesn't."""
    fields = fields_of(row)
    guessing = len(fields) == 5 and fields[4] == "guessing"
    if len(fields) != 4 and not guessing:
        return None
    slop_word, slop, gap_word, gap = fields[:4]
    if (slop_word, gap_word) != ("slop", "gap") or not is_between(slop, 0, MOST_SLOP):
        return None
    return Desk(scene, slop=slop, gap=gap, guessing=guessing) if is_between(gap, 1, MOST_GAP) else None


def _is_done(desk, row):
    """Do the deed of a row; tell whether it wasn't refused."""
    try:
        _do(desk, row)
    except (NoTouch, Late, IsDown, NotDown, NoPart):
        return False
    return True


def _do(desk, row):
    """Do the deed of a row; what is no deed is refused."""
    word, *more = fields_of(row)
    if word == "back" and len(more) == 0:
        desk.back()
    elif word == "go" and len(more) == 1:
        desk.go(more[0])
    elif word == "out" and len(more) == 1:
        desk.out(more[0])
    else:
        # Where there is none it is refused as any other thing that is no touch.
        desk.put(touch_of(row))
