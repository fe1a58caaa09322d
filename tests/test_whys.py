"""Whys: is_how [28], papers and their first wrong row [29]."""

import unittest

import draws
from build import Asked, alone, papers, part, reader, scene, touch
from strokeguess.reader import Reader
from strokeguess.whys import first_wrong_row, is_how, paper
from things import JUNK, SIXTY, spoiled

FOUND = alone(("tap", "t", 1), ("tap", "d", 2), ("press", "p", 500), ("pull", "q", "any"), heeds=[("t", "d")])
TOUCHES = [touch("down", 0), touch("up", 10), touch("down", 20, 0, 0, 1)]
FORMS = [("won", 5), ("out", 5, "moved"), ("out", 5, "to", "t", 0), ("kept", 5), ("stands",)]


def near(how):
    """Each thing that is this how but for one place, or a list for a tuple."""
    yield from spoiled(how)
    for at, inner in enumerate(how):
        others = [inner + 1, inner - 1, -inner - 1, str(inner), bool(inner), 0 - SIXTY] if type(inner) is int else [
            inner + "a", inner[1:], inner.upper(), "", "late", "gone", "made", "up", "lost", "moved", "to", "won", "q", "t"]
        for other in others:
            yield how[:at] + (other,) + how[at + 1:]
    for form in FORMS:
        yield form
    yield list(how)
    yield how[:-1]
    yield how + (0,)
    yield (how,)
    yield how[::-1]


def is_plainly(thing, how):
    """Whether a thing is the very same, kinds too."""
    return repr(thing) == repr(how)


class IsHow(Asked):
    def finds(self, found, touches, moment, stroke, label, how, **by):
        """Whether just this is found right, of it and all that is near it."""
        self.assertIs(is_how(found, touches, moment, stroke, label, how, **by), True)
        for thing in list(near(how)) + JUNK:
            told = is_how(found, touches, moment, stroke, label, thing, **by)
            self.assertIs(told, is_plainly(thing, how), (thing, how))

    def test_stands_and_kept(self):
        self.finds(FOUND, TOUCHES, 20, 0, "t", ("kept", 10))
        self.finds(FOUND, TOUCHES, 20, 1, "t", ("stands",))
        self.finds(FOUND, TOUCHES, 20, 0, "d", ("stands",))

    def test_won(self):
        self.finds(FOUND, TOUCHES, 520, 1, "p", ("won", 520))
        self.finds(FOUND, TOUCHES[:2], 310, 0, "t", ("won", 310))
        # One may be won at moment 1, which is no truth.
        self.finds(alone(("tap", "t", 1)), [touch("down", 0), touch("up", 1)], 1, 0, "t", ("won", 1))
        self.finds(alone(("tap", "t", 1)), [touch("down", 0), touch("up", 0)], 1, 0, "t", ("won", 0))

    def test_each_why(self):
        self.finds(FOUND, TOUCHES, 20, 0, "p", ("out", 10, "up"))
        self.finds(FOUND, TOUCHES[:2], 310, 0, "d", ("out", 310, "late"))
        self.finds(FOUND, TOUCHES + [touch("move", 30, 19, 0, 1)], 30, 1, "p", ("out", 30, "moved"))
        self.finds(FOUND, TOUCHES + [touch("lost", 30, 19, 0, 1)], 30, 0, "d", ("out", 30, "lost"))
        self.finds(FOUND, TOUCHES + [touch("up", 30, 0, 0, 1)], 30, 0, "t", ("out", 30, "to", "d", 0))
        self.finds(FOUND, TOUCHES + [touch("up", 30, 0, 0, 1)], 30, 1, "t", ("out", 30, "to", "d", 0))
        made = alone(("made", "m", ((None, ()),)))
        self.finds(made, [touch("down", 0), touch("up", 3)], 5, 0, "m", ("out", 3, "made"))

    def test_waits_that_end_just_at_the_moment_and_one_ahead(self):
        self.finds(FOUND, TOUCHES, 519, 1, "p", ("stands",))
        self.finds(FOUND, TOUCHES, 520, 1, "p", ("won", 520))
        self.finds(FOUND, TOUCHES[:2], 309, 0, "t", ("kept", 10))
        self.finds(FOUND, TOUCHES, 10 ** 9, 1, "p", ("won", 520))

    def test_by_slop_and_gap(self):
        touches = [touch("down", 0), touch("move", 5, 10), touch("up", 9, 10)]
        self.finds(FOUND, touches, 9, 0, "t", ("out", 5, "moved"), slop=9)
        self.finds(FOUND, touches, 9, 0, "t", ("kept", 9), slop=10)
        self.finds(FOUND, touches, 20, 0, "t", ("won", 19), gap=10)
        with self.assertRaises(TypeError):
            is_how(FOUND, touches, 20, 0, "t", ("won", 19), 18)

    def test_no_such_hope(self):
        for stroke, label in ((0, "x"), (2, "t"), (-1, "t"), (-2, "t"), (SIXTY, "t"), (-SIXTY, "t"), (0, "all")):
            for thing in FORMS + JUNK:
                self.assertIs(is_how(FOUND, TOUCHES, 20, stroke, label, thing), False)
        self.assertIs(is_how(FOUND, [], 20, 0, "t", ("stands",)), False)

    def test_nothing_handed_in_is_changed(self):
        touches = list(TOUCHES)
        is_how(FOUND, touches, 600, 0, "t", ["won", 5])
        self.assertEqual(touches, TOUCHES)


class Papers(Asked):
    def test_each_hope_of_the_contest_in_order(self):
        made = reader(FOUND, ("down", 0), ("up", 10), ("down", 20, 0, 0, 1))
        self.assertEqual(paper(made, 0), [("t", ("kept", 10)), ("d", ("stands",)), ("p", ("out", 10, "up")),
                                          ("q", ("out", 10, "up"))])
        self.assertEqual(paper(made, 1), [(label, ("stands",)) for label in "tdpq"])
        self.assertEqual([paper(made, stroke) for stroke in (-1, 2, SIXTY, -SIXTY)], [[]] * 4)
        self.assertEqual(paper(Reader(FOUND), 0), [])

    def test_of_a_reader_with_parts_out(self):
        made = reader(scene(part("all", ("tap", "t", 1), parts=[part("in", ("tap", "u", 1))])), ("down", 3))
        made.out("in")
        self.assertEqual(paper(made, 0), [("u", ("out", 3, "gone")), ("t", ("stands",))])

    def test_a_paper_is_the_askers_own(self):
        made = reader(FOUND, ("down", 0))
        paper(made, 0).clear()
        self.assertEqual(len(paper(made, 0)), 4)


class FirstWrongRow(Asked):
    def first(self, thing, stroke=0, moment=20, **by):
        return first_wrong_row(FOUND, TOUCHES, moment, stroke, thing, **by)

    def test_the_right_one(self):
        for moment in (20, 309, 519, 520, 10 ** 9):
            made = reader(FOUND, ("down", 0), ("up", 10), ("down", 20, 0, 0, 1), until=moment)
            for stroke in (-1, 0, 1, 2):
                self.assertIsNone(self.first(paper(made, stroke), stroke, moment))

    def test_the_first_wrong_one(self):
        right = paper(reader(FOUND, ("down", 0), ("up", 10), ("down", 20, 0, 0, 1)), 0)
        for at, row in enumerate(right):
            others = [(row[0], how) for how in near(row[1])] + [(label, row[1]) for label in ("x", "", "T", None)]
            for other in others + [list(row), (row,), row + (0,), row[:1], row[::-1]] + JUNK:
                for behind in (right[at + 1:], [], [None] * 9):
                    told = self.first(right[:at] + [other] + behind)
                    if is_plainly(other, row):
                        self.assertNotEqual(told, at)
                    else:
                        self.assertEqual(told, at)

    def test_rows_that_lack_and_rows_too_many(self):
        right = paper(reader(FOUND, ("down", 0), ("up", 10), ("down", 20, 0, 0, 1)), 0)
        for count in range(4):
            self.assertEqual(self.first(right[:count]), count)
        for more in ([None], [right[0]], right, [("x", ("stands",))]):
            self.assertEqual(self.first(right + more), 4)
        self.assertEqual(self.first(right[1:]), 0)
        self.assertEqual(self.first(right[:1] + right[2:]), 1)

    def test_exchanged_rows(self):
        right = paper(reader(FOUND, ("down", 0), ("up", 10), ("down", 20, 0, 0, 1)), 1)
        self.assertEqual(self.first([right[0], right[2], right[1], right[3]], 1), 1)

    def test_what_is_no_list(self):
        right = paper(reader(FOUND, ("down", 0), ("up", 10), ("down", 20, 0, 0, 1)), 0)
        for thing in [tuple(right), (), None, "", True, 0] + [junk for junk in JUNK if not isinstance(junk, list)]:
            for stroke in (0, 1, 2):
                self.assertEqual(self.first(thing, stroke), 0)

    def test_of_no_such_stroke(self):
        for stroke in (-1, 2, SIXTY):
            self.assertIsNone(self.first([], stroke))
            self.assertEqual(self.first([None], stroke), 0)
            self.assertEqual(self.first([("t", ("stands",))], stroke), 0)

    def test_by_slop_and_gap(self):
        touches = [touch("down", 0), touch("move", 5, 10)]
        for slop in (9, 10):
            right = paper(reader(FOUND, ("down", 0), ("move", 5, 10), slop=slop), 0)
            self.assertIsNone(first_wrong_row(FOUND, touches, 5, 0, right, slop=slop))
            self.assertEqual(first_wrong_row(FOUND, touches, 5, 0, right, slop=19 - slop), 0)
        right = paper(reader(FOUND, ("down", 0), ("up", 5), until=9, gap=4), 0)
        self.assertIsNone(first_wrong_row(FOUND, [touch("down", 0), touch("up", 5)], 9, 0, right, gap=4))
        self.assertEqual(first_wrong_row(FOUND, [touch("down", 0), touch("up", 5)], 9, 0, right, gap=5), 0)


class Drawn(Asked):
    def test_each_hope_has_a_why_that_a_looker_finds_right_and_no_other(self):
        for seed in range(25):
            draw = draws.drawn(seed)
            found, touches = draws.scene(draw), draws.touches(draw, 20)
            made = Reader(found)
            for row in touches:
                made.put(row)
            moment = touches[-1][0] + draw.choice([0, 50, 1000])
            made.go(moment)
            for stroke, right in enumerate(papers(made)):
                self.assertEqual(paper(made, stroke), right)
                self.assertIsNone(first_wrong_row(found, touches, moment, stroke, right))
                for at, (label, how) in list(enumerate(right))[:2]:
                    self.assertIs(is_how(found, touches, moment, stroke, label, how), True)
                    other = draw.choice([form for form in near(how) if not is_plainly(form, how)])
                    self.assertIs(is_how(found, touches, moment, stroke, label, other), False)
                    wrong = right[:at] + [(label, other)] + right[at + 1:]
                    self.assertEqual(first_wrong_row(found, touches, moment, stroke, wrong), at)


if __name__ == "__main__":
    unittest.main()
