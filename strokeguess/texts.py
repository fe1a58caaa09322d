"""Texts: touches, scenes, and what was read, written in rows and read again."""

from strokeguess.drafts import scene_of
from strokeguess.errors import NoText
from strokeguess.kinds import is_word
from strokeguess.rows import fields_of, row_of, rows_of, touch_of
from strokeguess.touches import is_moment

# What is told behind each word of what was read: a sign for each thing, "n" for a number and "w" for a part's name.
TOLD = {
    "tapped": ("nn",),
    "began": ("",),
    "moved": ("nn", "nnnn"),
    "ended": ("",),
    "flung": ("nn",),
    "off": ("",),
    "shelf": ("wnn",),
    "over": ("nn",),
    "guess": ("",),
    "back": ("",),
}


def show_touches(touches):
    """Write touches."""
    return "\n".join([row_of(touch) for touch in touches])


def read_touches(text):
    """Read touches."""
    touches = []
    for at, row in enumerate(rows_of(text)):
        touch = touch_of(row)
        if touch is None:
            raise NoText(at)
        touches.append(touch)
    return touches


def show_scene(scene):
    """Write a scene."""
    part, beside, heeds = scene
    rows = _part_rows(part, 0)
    rows.extend([row_of(("beside", *pair)) for pair in beside])
    rows.extend([row_of(("heed", *pair)) for pair in heeds])
    return "\n".join(rows)


def read_scene(text):
    """Read a scene."""
    return scene_of(rows_of(text))


def show_told(rows):
    """Write what was read."""
    return "\n".join([row_of((moment, label, stroke, word, *more)) for moment, label, stroke, word, more in rows])


def read_told(text):
    """Read what was read."""
    found = []
    for at, row in enumerate(rows_of(text)):
        fields = fields_of(row)
        if not _is_told(fields):
            raise NoText(at)
        found.append((*fields[:4], tuple(fields[4:])))
    return found


def _part_rows(part, depth):
    """List the rows of a part and of all in it."""
    name, box, ear, shelf, wishes, parts = part
    rows = [row_of(("part", depth, name, *box))]
    if ear is not None:
        rows.append(row_of(("ear", ear)))
    if shelf is not None:
        rows.append(row_of(("shelf", *shelf)))
    for wish in wishes:
        rows.extend(_wish_rows(wish))
    for inner in parts:
        rows.extend(_part_rows(inner, depth + 1))
    return rows


def _wish_rows(wish):
    """List the rows of a wish."""
    if wish[0] != "made":
        return [row_of(("wish", *wish))]
    kind, label, machine = wish
    return [row_of(("wish", kind, label)), *[_state_row(state) for state in machine]]


def _state_row(state):
    """Write a machine's state as a row."""
    wait, steps = state
    fields = ["state", "-" if wait is None else wait]
    for step in steps:
        fields.extend(step)
    return row_of(fields)


def _is_told(fields):
    """Tell whether fields are those of a row of what was read."""
    if len(fields) < 4:
        return False
    moment, label, stroke, word, *more = fields
    if not is_moment(moment) or not is_word(label) or not isinstance(stroke, int) or stroke < 0:
        return False
    return word in TOLD and "".join([_sign_of(field) for field in more]) in TOLD[word]


def _sign_of(field):
    """Tell the sign of a field, as what is told behind words has them."""
    if isinstance(field, int):
        return "n"
    return "w" if is_word(field) else "?"
