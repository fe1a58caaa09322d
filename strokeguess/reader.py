"""The reader: is told touches and moments, and tells what was read."""

from strokeguess.contests import Contests
from strokeguess.errors import NoHope, NoPart
from strokeguess.gates import Gate
from strokeguess.scenes import ears_of, insides_of
from strokeguess.shelves import Shelves
from strokeguess.tellers import Teller, step_of
from strokeguess.touches import OVER_WORDS
from strokeguess.ways import way_around


class Reader:
    """Reads fingers' strokes on a scene."""

    def __init__(self, scene, *, slop=18, gap=300, guessing=False):
        self.scene = scene
        self.slop = slop
        self.gap = gap
        self.guessing = guessing
        # What it was told, as tuples of a word and a thing; a reader that is told these stands as it does.
        self.deeds = []
        self._gate = Gate()
        self._shelves = Shelves(scene)
        self._teller = Teller(self._shelves, guessing)
        self._contests = Contests(scene, slop, gap, self._teller)
        self._ears = ears_of(scene)
        self._insides = insides_of(scene)
        self._ways = {}
        self._heard = []
        # The parts that were taken out and aren't back, the last one last; and the names of all that are out by it.
        self._outs = []
        self._missing = {}

    def put(self, touch):
        """Be told a touch; tell what was read by it."""
        self._gate.let_touch(touch)
        self.deeds.append(("put", touch))
        known = len(self._teller.rows)
        moment, finger, word, x, y = touch
        self._contests.pass_to(moment)
        if word == "down":
            way = way_around(self.scene, x, y, self._shelves.places(), self._missing)
            self._ways[finger] = way
            self._contests.begin(touch, way)
        else:
            self._contests.go_on(touch)
        self._hear(touch)
        if word in OVER_WORDS:
            del self._ways[finger]
        return self._teller.rows[known:]

    def go(self, moment):
        """Be told a moment to which time passes; tell what was read by it."""
        self._gate.let_moment(moment)
        self.deeds.append(("go", moment))
        known = len(self._teller.rows)
        self._contests.pass_to(moment)
        return self._teller.rows[known:]

    def out(self, name):
        """Take out a part with those in it; tell what was read by it."""
        if not isinstance(name, str) or name not in self._insides or name == self._first() or self.is_out(name):
            raise NoPart(name)
        self.deeds.append(("out", name))
        known = len(self._teller.rows)
        self._outs.append(name)
        self._missing = self._names_out()
        self._shelves.put_back(self._insides[name])
        self._contests.take_out(self._insides[name], self.moment())
        return self._teller.rows[known:]

    def back(self):
        """Put back the part that was taken out last."""
        if not self._outs:
            raise NoPart("back")
        self.deeds.append(("back", None))
        self._outs.pop()
        self._missing = self._names_out()

    def told(self):
        """List all that was read."""
        return list(self._teller.rows)

    def how(self, stroke, label):
        """Tell how the hope of a label in a stroke's contest is."""
        for hope in self._contests.hopes(stroke):
            if hope.label == label:
                return hope.fate()
        raise NoHope(label)

    def labels(self, stroke):
        """List the labels of a stroke's contest, in order."""
        return [hope.label for hope in self._contests.hopes(stroke)]

    def places(self):
        """Tell the places of all shelves whose parts aren't out, by their parts."""
        return self._without_missing(self._shelves.places())

    def shown(self):
        """Tell the places as they would be if all pulls whose claims are kept had won."""
        shelves = self._shelves.copy()
        for hope in self._contests.kept_pulls():
            dx, dy = step_of(hope, hope.strokes[-1].start)
            shelves.step(hope.name, dx, dy)
        return self._without_missing(shelves.places())

    def heard(self):
        """List which part heard which finger's touches."""
        return list(self._heard)

    def moment(self):
        """Tell the last moment told, None at first."""
        return self._gate.last

    def fingers(self):
        """List the fingers that are down, sorted."""
        return self._gate.fingers()

    def copy(self):
        """Make another one that stands as it does."""
        return self.behind(len(self.deeds))

    def behind(self, count):
        """Make another one that stands as it did behind so many deeds."""
        other = Reader(self.scene, slop=self.slop, gap=self.gap, guessing=self.guessing)
        deeds = self.deeds[:count]
        for word, thing in deeds:
            if word == "put":
                other.put(thing)
            elif word == "go":
                other.go(thing)
            elif word == "out":
                other.out(thing)
            else:
                other.back()
        return other

    def gate(self):
        """Make a gate that lets pass what it may be told next."""
        return self._gate.copy()

    def many_strokes(self):
        """Tell how many strokes there were."""
        return self._contests.many()

    def is_out(self, name):
        """Tell whether a part is out."""
        return name in self._missing

    def _first(self):
        """Tell the name of the first part."""
        return self.scene[0][0]

    def _names_out(self):
        """Tell, as a dict of truths, the names of all parts that are out."""
        return {inner: True for name in self._outs for inner in self._insides[name]}

    def _without_missing(self, places):
        """Leave out the places of parts that are out."""
        return {name: places[name] for name in places if name not in self._missing}

    def _hear(self, touch):
        """Have the parts of a stroke's way hear a touch, to the first one that stops it."""
        moment, finger, word, _, _ = touch
        for name in self._ways[finger]:
            ear = None if name in self._missing else self._ears[name]
            if ear is not None:
                self._heard.append((moment, name, finger, word))
            if ear == "stop":
                return
