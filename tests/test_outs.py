"""Parts taken out and put back, by a reader [33], and what it says of them elsewhere [14, 16, 24]."""

import unittest

from build import Asked, alone, papers, part, reader, scene, stand, touch
from strokeguess.errors import NoPart
from strokeguess.reader import Reader
from things import JUNK

LEFT = (0, 0, 100, 200)
RIGHT = (100, 0, 100, 200)


def rooms():
    """a holds b, which holds c; d stands beside a, and under it."""
    deep = part("c", ("press", "w", 50), box=(0, 0, 50, 50), shelf=("along", -9, 9))
    inner = part("b", ("tap", "x", 2), ("pull", "y", "any"), box=LEFT, shelf=("across", -30, 30), parts=[deep])
    outer = part("a", ("press", "z", 100), shelf=("across", -50, 50), parts=[inner])
    return scene(part("all", ("spread", "s"), parts=[part("d", ("tap", "t", 1)), outer]),
                 [("w", "y"), ("y", "z")], [("t", "y")])


class Refusals(Asked):
    def refused(self, made, name, call):
        before = stand(made)
        with self.assertRaises(NoPart) as caught:
            call()
        self.assertIs(caught.exception.name, name)
        self.assertEqual(stand(made), before)

    def test_the_first_part_and_anything_that_is_no_parts_name(self):
        made = reader(rooms(), ("down", 0), ("move", 9, 19))
        for name in ["all", "w", "s", "e", "aa", "A", "back", ""] + JUNK:
            if name not in ("a", "b", "c", "d") or not isinstance(name, str):
                self.refused(made, name, lambda: made.out(name))

    def test_one_that_is_out(self):
        made = Reader(rooms())
        made.out("b")
        for name in ("b", "c"):
            self.refused(made, name, lambda: made.out(name))
        made.out("a")
        for name in ("a", "b", "c"):
            self.refused(made, name, lambda: made.out(name))
        made.out("d")
        self.refused(made, "d", lambda: made.out("d"))

    def test_back_where_none_is_out(self):
        made = Reader(rooms())
        word = "back"
        with self.assertRaises(NoPart) as caught:
            made.back()
        self.assertEqual(caught.exception.name, word)
        made.out("b")
        self.assertIsNone(made.back())
        with self.assertRaises(NoPart) as caught:
            made.back()
        self.assertEqual(vars(caught.exception), {"name": "back"})


class Outs(Asked):
    def test_ahead_of_all_touches(self):
        made = Reader(rooms())
        self.assertEqual([made.out("a"), made.moment(), made.places()], [[], None, {}])
        made.put(touch("down", 5, 10, 10))
        self.assertEqual(made.labels(0), ["t", "s"])

    def test_gone_then_off_then_kept_claims(self):
        # z has won and is off; x stands and is gone; y's claim is kept and is gone, t wins by that.
        inner = part("b", ("tap", "x", 2), ("pull", "y", "any"), parts=[])
        outer = part("a", ("press", "z", 100), parts=[inner])
        found = scene(part("all", ("tap", "t", 1), ("made", "m", ((5, (("wait", "claim"),)),)), parts=[outer]),
                      [("x", "z"), ("y", "z"), ("m", "z"), ("m", "x"), ("x", "y"), ("m", "y")], [("m", "x"), ("y", "x")])
        made = reader(found, ("down", 0), until=150, guessing=True)
        self.assertEqual(made.told(), [(5, "m", 0, "guess", ()), (100, "z", 0, "began", ())])
        self.assertEqual(made.out("a"), [(150, "z", 0, "off", ()), (150, "m", 0, "began", ())])
        gone = ("out", 150, "gone")
        self.hows(made, (0, "x", gone), (0, "y", gone), (0, "z", ("won", 100)), (0, "m", ("won", 150)),
                  (0, "t", ("out", 100, "to", "z", 0)))

    def test_back_ahead_of_off(self):
        found = scene(part("all", parts=[part("a", ("pull", "y", "any"), ("press", "z", 50), ("spread", "s"))]),
                      [("y", "z"), ("s", "z")], [("y", "s")])
        made = reader(found, ("down", 0), ("down", 0, 100, 0, 1), ("move", 60, 19), ("move", 60, 119, 0, 1), guessing=True)
        self.assertEqual([made.how(at, "y") for at in (0, 1)], [("kept", 60), ("kept", 60)])
        told = made.out("a")
        self.assertEqual(told, [(60, "y", 0, "back", ()), (60, "y", 1, "back", ()),
                                (60, "z", 0, "off", ()), (60, "z", 1, "off", ())])

    def test_gone_by_first_strokes_then_by_the_contest(self):
        found = scene(part("all", parts=[part("a", ("press", "y", 50), box=LEFT), part("b", ("press", "z", 50), box=RIGHT)]))
        first = scene(part("top", parts=[part("all", parts=found[0][5])]))
        made = reader(first, ("down", 0, 150, 0), ("down", 1, 50, 0, 1), until=60)
        self.assertEqual(made.out("all"), [(60, "z", 0, "off", ()), (60, "y", 1, "off", ())])

    def test_nothing_is_told_of_what_is_over(self):
        made = reader(rooms(), ("down", 0, 150, 0), ("up", 200, 150, 0), ("down", 300, 150, 0), ("lost", 500, 150, 0))
        self.assertEqual([row[3] for row in made.told()], ["began", "ended", "began", "off"])
        self.assertEqual(made.out("a"), [])

    def test_nothing_is_told_behind_off(self):
        made = reader(rooms(), ("down", 0, 150, 0), ("move", 150, 160, 0))
        self.assertEqual(made.out("a"), [(150, "z", 0, "off", ())])
        self.assertEqual([made.put(touch("move", 160, 170, 0)), made.put(touch("up", 170, 170, 0))], [[], []])
        self.assertEqual(made.how(0, "z"), ("won", 100))

    def test_hopes_of_strokes_that_are_over_are_gone_too(self):
        made = reader(rooms(), ("down", 0, 80, 80), ("up", 10, 80, 80), ("down", 12, 150, 150))
        made.out("b")
        self.assertEqual(made.how(0, "x"), ("out", 12, "gone"))
        self.assertEqual(made.how(1, "z"), ("stands",))

    def test_only_hopes_of_the_part_and_of_those_in_it(self):
        made = reader(rooms(), ("down", 0, 10, 10))
        made.out("b")
        gone = ("out", 0, "gone")
        self.assertEqual(papers(made), [[("w", gone), ("x", gone), ("y", gone), ("z", ("stands",)), ("s", ("stands",))]])

    def test_what_it_held_wins(self):
        found = scene(part("all", ("tap", "t", 1), parts=[part("a", ("tap", "x", 2))]), [], [("t", "x")])
        made = reader(found, ("down", 0), ("up", 10, 1, 1), until=99)
        self.assertEqual(made.out("a"), [(99, "t", 0, "tapped", (1, 1))])

    def test_a_win_by_it_pulls_shelves(self):
        found = scene(part("all", ("pull", "q", "any"), shelf=("across", -9, 9), parts=[part("a", ("spread", "s"))]),
                      [], [("q", "s")])
        made = reader(found, ("down", 0), ("move", 5, 19), until=8)
        self.assertEqual(made.out("a"), [
            (8, "q", 0, "began", ()), (8, "q", 0, "moved", (19, 0)), (8, "q", 0, "shelf", ("all", 9, 9)),
            (8, "q", 0, "over", (10, 0))])


class Ways(Asked):
    def test_later_ways_pass_it_by(self):
        made = Reader(rooms())
        for name, way in ((None, ["w", "x", "y", "z", "s"]), ("c", ["x", "y", "z", "s"]), ("b", ["z", "s"]),
                          ("a", ["t", "s"]), ("d", ["s"])):
            if name:
                made.out(name)
            other = made.copy()
            other.put(touch("down", 0, 10, 10))
            self.assertEqual(other.labels(0), way)

    def test_a_strokes_own_way_stays_for_its_other_hopes(self):
        made = reader(rooms(), ("down", 0, 80, 80))
        made.out("b")
        made.put(touch("move", 1, 81, 80))
        self.assertEqual(made.go(100), [(100, "z", 0, "began", ())])

    def test_back_in_the_order_last_first(self):
        made = Reader(rooms())
        for name in ("c", "d", "b", "a"):
            made.out(name)
        ways = []
        for _ in range(4):
            made.back()
            other = made.copy()
            other.put(touch("down", 0, 10, 10))
            ways.append(other.labels(0))
        self.assertEqual(ways, [["z", "s"], ["x", "y", "z", "s"], ["x", "y", "z", "s"], ["w", "x", "y", "z", "s"]])

    def test_one_that_is_back_can_be_taken_out_again(self):
        made = Reader(rooms())
        for _ in range(3):
            made.out("b")
            made.out("d")
            made.back()
            made.back()
        made.put(touch("down", 0, 10, 10))
        self.assertEqual(made.labels(0), ["w", "x", "y", "z", "s"])

    def test_hopes_that_were_gone_stay_gone(self):
        made = reader(rooms(), ("down", 0, 80, 80), ("up", 10, 80, 80))
        made.out("b")
        made.back()
        made.put(touch("down", 20, 80, 80))
        made.put(touch("up", 30, 80, 80))
        self.hows(made, (0, "x", ("out", 10, "gone")), (1, "x", ("stands",)))


class Places(Asked):
    def test_places_are_told_without_it_and_are_0_behind_it(self):
        # Pulled by 19 and by 20, b's shelf is full, and a's has the rest.
        made = reader(rooms(), ("down", 0, 80, 80), ("move", 1, 119, 80), ("up", 2, 119, 80))
        self.assertEqual(made.places(), {"a": 9, "b": 30, "c": 0})
        made.out("b")
        self.assertEqual([made.places(), made.shown()], [{"a": 9}] * 2)
        made.back()
        self.assertEqual([made.places(), made.shown()], [{"a": 9, "b": 0, "c": 0}] * 2)
        made.out("c")
        self.assertEqual(made.places(), {"a": 9, "b": 0})
        made.out("a")
        made.back()
        self.assertEqual(made.places(), {"a": 0, "b": 0})
        made.back()
        self.assertEqual(made.places(), {"a": 0, "b": 0, "c": 0})

    def test_a_kept_pull_that_is_gone_is_shown_no_more(self):
        inner = part("in", ("pull", "q", "any"))
        found = scene(part("all", ("spread", "s"), shelf=("across", -30, 30), parts=[inner]), [], [("q", "s")])
        made = reader(found, ("down", 0), ("move", 1, 20))
        self.assertEqual(made.shown(), {"all": 20})
        made.out("in")
        self.assertEqual(made.shown(), {"all": 0})

    def test_a_copy_has_the_same_out(self):
        made = reader(rooms(), ("down", 0, 80, 80), ("move", 1, 119, 80))
        made.out("c")
        made.out("b")
        other = made.copy()
        self.assertEqual(stand(other), stand(made))
        made.back()
        self.assertEqual([made.places(), other.places()], [{"a": 9, "b": 0}, {"a": 9}])
        other.back()
        other.back()
        self.assertEqual(other.places(), {"a": 9, "b": 0, "c": 0})


if __name__ == "__main__":
    unittest.main()
