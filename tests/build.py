"""Short ways to build scenes and to tell readers touches, for tests."""

import unittest

from strokeguess.reader import Reader
from strokeguess.scenes import is_scene

ALL = (0, 0, 200, 200)


def state(length=None, /, **steps):
    """A state of a machine, by its wait and the next of each word."""
    return (length, tuple(steps.items()))


def part(name, *wishes, box=ALL, ear=None, shelf=None, parts=()):
    return (name, box, ear, shelf, tuple(wishes), tuple(parts))


def scene(first, beside=(), heeds=()):
    found = (first, tuple(beside), tuple(heeds))
    assert is_scene(found), found
    return found


def alone(*wishes, beside=(), heeds=(), shelf=None):
    """A scene of one part, with these wishes."""
    return scene(part("all", *wishes, shelf=shelf), beside, heeds)


def touch(word, moment, x=0, y=0, finger=0):
    """A touch by word and moment, the rest as needed."""
    return (moment, finger, word, x, y)


def reader(found, *rows, until=None, **by):
    """A reader that was told these touches, as touch takes them."""
    made = Reader(found, **by)
    for row in rows:
        made.put(touch(*row))
    if until is not None:
        made.go(until)
    return made


def papers(made):
    """All that how tells, contest by contest."""
    return [[(label, made.how(at, label)) for label in made.labels(at)] for at in range(made.many_strokes())]


def stand(made):
    """All that a reader tells of itself."""
    return (made.told(), made.heard(), made.places(), made.shown(), made.moment(), made.fingers(), papers(made))


class Asked(unittest.TestCase):
    maxDiff = None

    def reads(self, found, rows, told, until=None, **by):
        """Whether a reader tells just this of these touches; it is handed back."""
        with self.subTest(rows=rows, until=until, **by):
            made = reader(found, *rows, until=until, **by)
            self.assertEqual(made.told(), told)
        return made

    def hows(self, made, *wanted):
        """Whether the hopes of strokes and labels are so."""
        for stroke, label, how in wanted:
            self.assertEqual(made.how(stroke, label), how, (stroke, label))
