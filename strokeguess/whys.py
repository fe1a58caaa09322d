"""Whys: a looker, who finds by the touches what became of each hope."""

from strokeguess.kinds import is_same
from strokeguess.reader import Reader


def is_how(scene, touches, moment, stroke, label, thing, *, slop=18, gap=300):
    """Tell of anything whether it is what a reader of these touches tells of a hope."""
    reader = _reader_of(scene, touches, moment, slop, gap)
    return label in reader.labels(stroke) and is_same(thing, reader.how(stroke, label))


def paper(reader, stroke):
    """Tell, of each hope of a stroke's contest, its label and how it is."""
    return [(label, reader.how(stroke, label)) for label in reader.labels(stroke)]


def first_wrong_row(scene, touches, moment, stroke, thing, *, slop=18, gap=300):
    """Tell of anything as a stroke's paper the first row that is wrong, or lacks, or None."""
    if not isinstance(thing, list):
        return 0
    right = paper(_reader_of(scene, touches, moment, slop, gap), stroke)
    for at, row in enumerate(thing):
        if at == len(right) or not is_same(row, right[at]):
            return at
    return len(thing) if len(thing) < len(right) else None


def _reader_of(scene, touches, moment, slop, gap):
    """Make a reader that was told these touches, and to which moment time passed."""
    reader = Reader(scene, slop=slop, gap=gap)
    for touch in touches:
        reader.put(touch)
    reader.go(moment)
    return reader
