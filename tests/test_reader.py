"""The reader: what it refuses [19], what it tells of each hope [20, 21], and that what it tells is the asker's own."""

import unittest

from build import Asked, alone, papers, part, reader, scene, stand, state, touch
from strokeguess.errors import IsDown, Late, NoHope, NotDown, NoTouch
from strokeguess.reader import Reader
from things import JUNK, spoiled

TAP = ("tap", "t", 1)
PRESS = ("press", "p", 500)
PULL = ("pull", "q", "any")
SPREAD = ("spread", "s")
TURN = ("turn", "u")
BOTH = [("down", 0, 0, 0), ("down", 10, 40, 0, 1)]


class Refusals(Asked):
    def refused(self, made, error, call, **fields):
        """Whether a call is refused so, and changes nothing of all that is told."""
        before = stand(made)
        with self.assertRaises(error) as caught:
            call()
        self.assertIs(type(caught.exception), error)
        self.assertEqual(vars(caught.exception), fields)
        self.assertEqual(stand(made), before)

    def some(self):
        return reader(alone(TAP, PRESS, PULL, shelf=("across", -9, 9)), ("down", 7), ("down", 9, 5, 5, 3), ("move", 10, 60))

    def test_anything_that_is_no_touch(self):
        for thing in JUNK + list(spoiled((20, 0, "move", 1, 2))):
            if thing not in ((20, 0, "move", 1, 2), (20, 3, "move", 1, 2)) and not self.is_good(thing):
                self.refused(self.made, NoTouch, lambda: self.made.put(thing))

    def is_good(self, thing):
        """Whether a spoiled touch is one yet, which is refused by its moment or finger or not at all."""
        from strokeguess.touches import is_touch
        return is_touch(thing)

    def setUp(self):
        self.made = self.some()

    def test_anything_that_is_no_moment(self):
        for thing in JUNK + [(20, 0, "move", 1, 2), -1, 10 ** 9 + 1]:
            if type(thing) is int and 0 <= thing <= 10 ** 9:
                continue
            self.refused(self.made, NoTouch, lambda: self.made.go(thing))

    def test_the_bounds_of_touches_and_moments(self):
        for row in ((-1, 0, "move", 0, 0), (10 ** 9 + 1, 0, "move", 0, 0), (20, -1, "down", 0, 0), (20, 10, "down", 0, 0),
                    (20, 0, "moves", 0, 0), (20, 0, "move", 10001, 0), (20, 0, "move", 0, -10001),
                    (True, 0, "move", 0, 0), (20, False, "move", 0, 0)):
            self.refused(self.made, NoTouch, lambda: self.made.put(row))
        for row in ((10, 0, "move", 10000, -10000), (10, 9, "down", -10000, 10000), (10 ** 9, 9, "lost", 0, 0)):
            self.made.put(row)
        self.made.go(10 ** 9)
        self.refused(self.made, NoTouch, lambda: self.made.go(10 ** 9 + 1))
        Reader(alone(TAP)).go(0)
        Reader(alone(TAP)).put((0, 0, "down", 0, 0))

    def test_a_moment_ahead_of_the_last_one(self):
        for moment in (9, 0):
            self.refused(self.made, Late, lambda: self.made.go(moment), last=10)
            self.refused(self.made, Late, lambda: self.made.put((moment, 0, "move", 0, 0)), last=10)
        self.made.go(10)
        self.made.put((10, 0, "move", 0, 0))
        self.made.go(400)
        self.refused(self.made, Late, lambda: self.made.put((399, 0, "up", 0, 0)), last=400)
        self.refused(self.made, Late, lambda: self.made.go(399), last=400)

    def test_a_finger_that_is_down_and_one_that_isnt(self):
        for finger in (0, 3):
            self.refused(self.made, IsDown, lambda: self.made.put((10, finger, "down", 0, 0)), finger=finger)
        for word in ("move", "up", "lost"):
            self.refused(self.made, NotDown, lambda: self.made.put((10, 1, word, 0, 0)), finger=1)
        for finger, word in ((0, "up"), (3, "lost")):
            self.made.put((11, finger, word, 0, 0))
            for other in ("move", "up", "lost"):
                self.refused(self.made, NotDown, lambda: self.made.put((12, finger, other, 0, 0)), finger=finger)
        self.made.put((12, 0, "down", 0, 0))

    def test_of_several_the_first_one(self):
        self.refused(self.made, NoTouch, lambda: self.made.put((0, 0, "down", 0, 10001)))
        self.refused(self.made, Late, lambda: self.made.put((0, 0, "down", 0, 0)), last=10)
        self.refused(self.made, Late, lambda: self.made.put((9, 1, "move", 0, 0)), last=10)

    def test_a_refused_touch_lets_no_time_pass(self):
        made = reader(alone(PRESS), ("down", 0))
        self.refused(made, IsDown, lambda: made.put((600, 0, "down", 0, 0)), finger=0)
        self.refused(made, NotDown, lambda: made.put((600, 1, "up", 0, 0)), finger=1)
        self.assertEqual([made.moment(), made.how(0, "p")], [0, ("stands",)])


class Makings(Asked):
    def test_slop_is_18_and_gap_300_where_left_out(self):
        found = alone(("tap", "t", 2), PULL)
        for moved, word in ((18, "stands"), (19, "out")):
            self.assertEqual(reader(found, ("down", 0), ("move", 1, moved)).how(0, "t")[0], word)
        for until, word in ((305, "stands"), (306, "out")):
            self.assertEqual(reader(found, ("down", 0), ("up", 6), until=until).how(0, "t")[0], word)

    def test_slop_and_gap_by_name(self):
        found = alone(("tap", "t", 2), PULL)
        self.assertEqual(reader(found, ("down", 0), ("move", 1, 5), slop=5).how(0, "t"), ("stands",))
        self.assertEqual(reader(found, ("down", 0), ("move", 1, 6), slop=5).how(0, "t"), ("out", 1, "moved"))
        self.assertEqual(reader(found, ("down", 0), ("up", 1), until=10, gap=10).how(0, "t"), ("stands",))
        self.assertEqual(reader(found, ("down", 0), ("up", 1), until=11, gap=10).how(0, "t"), ("out", 11, "late"))
        for more in ((18,), (18, 300), (18, 300, True)):
            with self.assertRaises(TypeError):
                Reader(found, *more)

    def test_a_new_one(self):
        made = Reader(alone(TAP, shelf=("along", -1, 1)))
        self.assertEqual(stand(made), ([], [], {"all": 0}, {"all": 0}, None, [], []))

    def test_moment_and_fingers(self):
        made = Reader(alone(TAP))
        for row, moment, fingers in ((("down", 3, 0, 0, 7), 3, [7]), (("down", 3, 0, 0, 2), 3, [2, 7]),
                                     (("move", 5, 0, 0, 7), 5, [2, 7]), (("down", 6, 900, 900, 0), 6, [0, 2, 7]),
                                     (("up", 9, 0, 0, 2), 9, [0, 7]), (("lost", 9, 0, 0, 7), 9, [0])):
            made.put(touch(*row))
            self.assertEqual([made.moment(), made.fingers()], [moment, fingers])
        made.go(9)
        made.go(50)
        self.assertEqual([made.moment(), made.fingers()], [50, [0]])

    def test_put_and_go_tell_what_was_read_then_and_told_all_of_it(self):
        made = Reader(alone(("press", "p", 50), ("tap", "t", 1), beside=[("p", "t")]))
        self.assertEqual(made.put((0, 0, "down", 0, 0)), [])
        self.assertEqual(made.go(49), [])
        began = [(50, "p", 0, "began", ())]
        self.assertEqual(made.go(70), began)
        tail = [(80, "p", 0, "moved", (1, 0)), (80, "p", 0, "ended", ()), (80, "t", 0, "tapped", (1, 0))]
        self.assertEqual(made.put((80, 0, "up", 1, 0)), tail)
        self.assertEqual(made.go(90), [])
        self.assertEqual(made.told(), began + tail)
        # What ends ahead of a touch is told by it, too, at its own moment.
        made.put((100, 0, "down", 0, 0))
        self.assertEqual(made.put((200, 0, "move", 0, 2)), [(150, "p", 1, "began", ()), (200, "p", 1, "moved", (0, 2))])


class Taps(Asked):
    def test_tapped_with_its_last_ups_place(self):
        self.reads(alone(TAP), [("down", 5, 30, 40), ("move", 6, 31, 41), ("up", 9, 35, 45)],
                   [(9, "t", 0, "tapped", (35, 45))], until=10 ** 9)
        rows = [("down", 0, 10, 10), ("up", 1, 11, 11), ("down", 2, 50, 50, 4), ("up", 3, 51, 52, 4)]
        self.reads(alone(("tap", "t", 2)), rows, [(3, "t", 0, "tapped", (51, 52))])

    def test_at_a_later_win_it_is_still_its_last_ups_place(self):
        found = alone(TAP, ("tap", "d", 2), heeds=[("t", "d")])
        self.reads(found, [("down", 0, 3, 4), ("up", 9, 5, 6)], [(309, "t", 0, "tapped", (5, 6))], until=500)

    def test_nothing_more_is_told_of_it(self):
        rows = [("down", 0), ("up", 9), ("down", 10), ("move", 11, 90), ("up", 12, 90)]
        self.reads(alone(TAP), rows, [(9, "t", 0, "tapped", (0, 0))], until=10 ** 9)


class Presses(Asked):
    def test_began_moved_ended(self):
        rows = [("down", 0, 10, 10), ("move", 400, 14, 12), ("move", 600, 15, 12), ("move", 610, 15, 12),
                ("move", 620, 900, -7), ("up", 700, 900, -6)]
        self.reads(alone(PRESS), rows, [
            (500, "p", 0, "began", ()), (600, "p", 0, "moved", (1, 0)), (620, "p", 0, "moved", (885, -19)),
            (700, "p", 0, "moved", (0, 1)), (700, "p", 0, "ended", ()),
        ], until=10 ** 9)

    def test_an_up_where_it_is_tells_no_moved_and_no_fling(self):
        self.reads(alone(PRESS), [("down", 0), ("move", 501, 200), ("up", 502, 200)],
                   [(500, "p", 0, "began", ()), (501, "p", 0, "moved", (200, 0)), (502, "p", 0, "ended", ())])

    def test_off_where_it_is_lost(self):
        rows = [("down", 0), ("lost", 600, 90, 90), ("down", 601), ("up", 602)]
        self.reads(alone(PRESS), rows, [(500, "p", 0, "began", ()), (600, "p", 0, "off", ())], until=10 ** 9)

    def test_its_steps_are_taken_by_no_shelf(self):
        made = reader(alone(PRESS, shelf=("across", -90, 90)), ("down", 0), ("move", 600, 50))
        self.assertEqual([made.told()[1:], made.places()], [[(600, "p", 0, "moved", (50, 0))], {"all": 0}])


class Pulls(Asked):
    def moves(self, way, rows, told):
        """What a pull tells besides over, which is told of each step without shelves."""
        made = reader(alone(("pull", "q", way)), *rows)
        self.assertEqual([row for row in made.told() if row[3] != "over"], told)
        self.assertEqual([row[4] for row in made.told() if row[3] == "over"],
                         [row[4] for row in made.told() if row[3] == "moved"])

    def test_began_moved_from_its_strokes_down(self):
        self.moves("any", [("down", 0, 5, 5), ("move", 1, 10, 10), ("move", 2, 30, 11), ("move", 3, 30, 11),
                           ("move", 4, 29, 12), ("up", 200, 29, 12)],
                   [(2, "q", 0, "began", ()), (2, "q", 0, "moved", (25, 6)), (4, "q", 0, "moved", (-1, 1)),
                    (200, "q", 0, "ended", ())])

    def test_an_up_moves_ahead_of_the_end(self):
        self.moves("any", [("down", 0), ("move", 1, 19), ("move", 120, 20), ("up", 210, 22, 1)],
                   [(1, "q", 0, "began", ()), (1, "q", 0, "moved", (19, 0)), (120, "q", 0, "moved", (1, 0)),
                    (210, "q", 0, "moved", (2, 1)), (210, "q", 0, "ended", ())])

    def test_across_and_along_tell_0_for_the_other_one(self):
        self.moves("across", [("down", 0), ("move", 1, 19, 70), ("move", 2, 19, 90), ("move", 3, 18, 5), ("up", 200, 18, 9)],
                   [(1, "q", 0, "began", ()), (1, "q", 0, "moved", (19, 0)), (3, "q", 0, "moved", (-1, 0)),
                    (200, "q", 0, "ended", ())])
        self.moves("along", [("down", 0), ("move", 1, 70, 19), ("move", 2, 90, 19), ("move", 3, 5, 18), ("up", 200, 9, 18)],
                   [(1, "q", 0, "began", ()), (1, "q", 0, "moved", (0, 19)), (3, "q", 0, "moved", (0, -1)),
                    (200, "q", 0, "ended", ())])

    def test_a_kept_one_that_is_back_at_its_down_tells_no_moved_at_the_win(self):
        found = alone(("pull", "q", "across"), ("pull", "h", "along"), beside=[("h", "q")], heeds=[("q", "h")])
        rows = [("down", 0), ("move", 1, 19), ("move", 2, 0, 19), ("move", 3, 1, 19)]
        made = self.reads(found, rows, [
            (2, "h", 0, "began", ()), (2, "h", 0, "moved", (0, 19)), (2, "h", 0, "over", (0, 19)),
            (2, "q", 0, "began", ()), (3, "q", 0, "moved", (1, 0)), (3, "q", 0, "over", (1, 0)),
        ])
        self.hows(made, (0, "q", ("won", 2)), (0, "h", ("won", 2)))

    def test_flung(self):
        rows = [("down", 0), ("move", 1, 19), ("up", 50, 51, 0)]
        self.moves("any", rows, [(1, "q", 0, "began", ()), (1, "q", 0, "moved", (19, 0)), (50, "q", 0, "moved", (32, 0)),
                                 (50, "q", 0, "flung", (51, 0))])
        rows[-1] = ("up", 50, 50, 0)
        self.moves("any", rows, [(1, "q", 0, "began", ()), (1, "q", 0, "moved", (19, 0)), (50, "q", 0, "moved", (31, 0)),
                                 (50, "q", 0, "ended", ())])

    def test_flung_from_the_last_touch_100_ahead(self):
        rows = [("down", 0), ("move", 1, 500), ("move", 100, 400), ("move", 101, 300), ("up", 200, 349)]
        self.assertEqual(reader(alone(PULL), *rows).told()[-1], (200, "q", 0, "flung", (-51, 0)))
        rows[-1] = ("up", 201, 349)
        self.assertEqual(reader(alone(PULL), *rows).told()[-1], (201, "q", 0, "ended", ()))

    def test_flung_across_and_along(self):
        for x, y, across, along in ((60, 60, (60, 0), (0, 60)), (50, 50, (50, 0), (0, 50)), (35, 0, None, None),
                                    (0, 51, None, (0, 51)), (-51, 0, (-51, 0), None), (1, 90, (1, 0), (0, 90))):
            for way, wanted in (("across", across), ("along", along)):
                rows = [("down", 0), ("move", 1, 900, 900), ("move", 2, 0, 0), ("move", 200, 0, 0), ("up", 300, x, y)]
                told = reader(alone(("pull", "q", way)), *rows).told()[-1]
                self.assertEqual(told, (300, "q", 0, "flung", wanted) if wanted else (300, "q", 0, "ended", ()), (x, y, way))

    def test_nothing_behind_the_end(self):
        for word, last in (("up", "ended"), ("lost", "off")):
            rows = [("down", 0), ("move", 1, 19), ("move", 200, 20), (word, 310, 20), ("down", 320), ("up", 330)]
            told = reader(alone(PULL), *rows).told()
            self.assertEqual(told[-1], (310, "q", 0, last, ()))
            self.assertEqual([row[3] for row in told].count(last), 1)

    def test_lost_is_off_and_tells_no_moved(self):
        rows = [("down", 0), ("move", 1, 19), ("lost", 20, 500, 500)]
        self.assertEqual(reader(alone(PULL), *rows).told()[-2:], [(1, "q", 0, "over", (19, 0)), (20, "q", 0, "off", ())])


class Pairs(Asked):
    def test_spread_tells_the_first_difference_and_the_one_now(self):
        rows = BOTH + [("move", 20, 51, 0, 1), ("move", 30, 51, 0, 1), ("move", 40, 0, 9), ("up", 50, 52, 0, 1),
                       ("move", 60, 90), ("up", 70, 90)]
        self.reads(alone(SPREAD), rows, [
            (20, "s", 0, "began", ()), (20, "s", 0, "moved", (40, 0, 51, 0)), (40, "s", 0, "moved", (40, 0, 51, -9)),
            (50, "s", 0, "moved", (40, 0, 52, -9)), (50, "s", 0, "ended", ()),
        ])

    def test_turn(self):
        rows = BOTH + [("move", 20, 40, 41, 1), ("move", 30, 0, 1), ("up", 40, 0, 1)]
        self.reads(alone(TURN), rows, [
            (20, "u", 0, "began", ()), (20, "u", 0, "moved", (40, 0, 40, 41)), (30, "u", 0, "moved", (40, 0, 40, 40)),
            (40, "u", 0, "ended", ()),
        ])

    def test_both_fingers_moved_alike_tell_what_is_in_between(self):
        rows = BOTH + [("move", 20, 60, 0, 1), ("move", 30, 5, 5), ("move", 30, 65, 5, 1)]
        told = reader(alone(SPREAD), *rows).told()
        self.assertEqual([row[4] for row in told], [(), (40, 0, 60, 0), (40, 0, 55, -5), (40, 0, 60, 0)])

    def test_lost_of_either_finger_is_off(self):
        for finger in (0, 1):
            rows = BOTH + [("move", 20, 60, 0, 1), ("lost", 30, 0, 0, finger), ("up", 40, 0, 0, 1 - finger)]
            self.assertEqual(reader(alone(SPREAD), *rows).told()[2:], [(30, "s", 0, "off", ())])

    def test_at_a_late_win_moved_is_told_always(self):
        # The pull is out by the first finger's up, so the spread would be, too; a press of the second finger's holds it.
        found = scene(part("all", SPREAD, parts=[part("in", ("press", "h", 100), box=(30, 0, 20, 20))]), [], [("s", "h")])
        rows = BOTH + [("move", 20, -30), ("move", 25, 0), ("move", 30, 41, 0, 1), ("move", 32, 40, 0, 1)]
        made = reader(found, *rows)
        self.assertEqual([made.told(), made.how(1, "s")], [[], ("kept", 20)])
        made.put((40, 1, "move", 59, 0))
        self.assertEqual(made.told(), [(40, "s", 0, "began", ()), (40, "s", 0, "moved", (40, 0, 59, 0))])


class MadeOnes(Asked):
    def test_told_as_a_press_where_the_finger_is_down(self):
        found = alone(("made", "m", (state(9, wait="claim"),)))
        self.reads(found, [("down", 0), ("move", 20, 5), ("up", 30, 5, 6)],
                   [(9, "m", 0, "began", ()), (20, "m", 0, "moved", (5, 0)), (30, "m", 0, "moved", (0, 6)),
                    (30, "m", 0, "ended", ())])
        found = alone(("made", "m", (state(out="claim"),)))
        self.reads(found, [("down", 0), ("move", 20, 19, 3), ("move", 21, 20, 3), ("lost", 22)],
                   [(20, "m", 0, "began", ()), (21, "m", 0, "moved", (1, 0)), (22, "m", 0, "off", ())])

    def test_told_as_a_tap_where_the_finger_is_up(self):
        found = alone(("made", "m", (state(up="claim"),)))
        self.reads(found, [("down", 0), ("up", 30, 5, 6)], [(30, "m", 0, "tapped", (5, 6))])
        found = alone(("made", "m", (state(up=1), state(9, wait="claim"))))
        self.reads(found, [("down", 0), ("up", 30, 5, 6), ("down", 35, 80, 80)], [(39, "m", 0, "tapped", (5, 6))], until=50)

    def test_at_a_later_finger(self):
        found = alone(("made", "m", (state(up=1), state(down="claim"))))
        self.reads(found, [("down", 0), ("up", 1), ("down", 5, 9, 9, 1), ("move", 6, 10, 9, 1), ("up", 7, 10, 9, 1)],
                   [(5, "m", 0, "began", ()), (6, "m", 0, "moved", (1, 0)), (7, "m", 0, "ended", ())])

    def test_flung_is_told_of_pulls_alone(self):
        found = alone(("made", "m", (state(out="claim"),)))
        self.assertEqual(reader(found, ("down", 0), ("move", 1, 90), ("up", 2, 180)).told()[-1], (2, "m", 0, "ended", ()))


class Hows(Asked):
    def test_each_form(self):
        found = alone(TAP, ("tap", "d", 2), PRESS, heeds=[("t", "d")])
        made = reader(found, ("down", 0))
        self.hows(made, (0, "t", ("stands",)), (0, "d", ("stands",)), (0, "p", ("stands",)))
        made.put((40, 0, "up", 0, 0))
        self.hows(made, (0, "t", ("kept", 40)), (0, "d", ("stands",)), (0, "p", ("out", 40, "up")))
        made.go(400)
        self.hows(made, (0, "t", ("won", 340)), (0, "d", ("out", 340, "late")), (0, "p", ("out", 40, "up")))

    def test_to_tells_the_label_and_the_first_stroke_of_the_one_that_won(self):
        found = alone(TAP, ("tap", "d", 2), heeds=[("t", "d")])
        made = reader(found, ("down", 0), ("up", 10), ("down", 20), ("up", 30))
        self.hows(made, (0, "t", ("out", 30, "to", "d", 0)), (1, "t", ("out", 30, "to", "d", 0)),
                  (0, "d", ("won", 30)), (1, "d", ("won", 30)))

    def test_kept_tells_the_moment_of_its_claim(self):
        found = alone(PULL, ("spread", "s"), heeds=[("q", "s")])
        made = reader(found, ("down", 0), ("move", 50, 19), ("move", 60, 90), until=70)
        self.hows(made, (0, "q", ("kept", 50)), (0, "s", ("stands",)))

    def test_no_hope_of_others(self):
        made = reader(alone(TAP), ("down", 0), ("down", 1, 900, 900, 1))
        for stroke, label in ((0, "p"), (0, "all"), (1, "t"), (2, "t"), (-1, "t"), (-2, "t"), (10 ** 60, "t"), (-10 ** 60, "t")):
            with self.assertRaises(NoHope) as caught:
                made.how(stroke, label)
            self.assertEqual(caught.exception.label, label)
        self.assertEqual([made.labels(at) for at in (-2, -1, 0, 1, 2, 10 ** 60)], [[], [], ["t"], [], [], []])


class Owns(Asked):
    def test_what_is_told_is_new_and_the_askers_own(self):
        found = scene(part("all", TAP, PULL, ear="hear", shelf=("across", -50, 50)))
        made = reader(found, ("down", 0), ("down", 1, 5, 5, 1), ("move", 2, 30))
        before = stand(made)
        for ask in (made.told, made.heard, made.places, made.shown, made.fingers, lambda: made.labels(0)):
            one, other = ask(), ask()
            self.assertIsNot(one, other)
            self.assertEqual(one, other)
            one.clear()
            self.assertEqual(ask(), other)
        self.assertEqual(stand(made), before)
        told = made.put((3, 0, "move", 40, 0))
        known = list(told)
        told.clear()
        self.assertEqual(made.told()[-len(known):], known)

    def test_what_was_told_stays(self):
        made = reader(alone(PULL), ("down", 0), ("move", 2, 30))
        told, fingers, places = made.told(), made.fingers(), made.places()
        made.put((3, 0, "up", 90, 90))
        self.assertEqual([len(told), fingers, places], [3, [0], {}])

    def test_what_is_told_is_of_the_plain_kinds(self):
        found = scene(part("all", TAP, PULL, ear="hear", shelf=("across", -50, 50)))
        made = reader(found, ("down", 0), ("down", 1, 5, 5, 1), ("move", 2, 30), guessing=True)
        for thing in stand(made):
            self.plain(thing)

    def plain(self, thing):
        self.assertIn(type(thing), (int, str, tuple, list, dict, type(None)))
        if isinstance(thing, (tuple, list)):
            for inner in thing:
                self.plain(inner)
        if isinstance(thing, dict):
            for name, inner in thing.items():
                self.plain((name, inner))


class Copies(Asked):
    def test_copies_go_each_their_own_way(self):
        found = scene(part("all", TAP, ("tap", "d", 2), PULL, ear="hear", shelf=("across", -50, 50)), [], [("t", "d")])
        made = reader(found, ("down", 0), ("up", 10), slop=9, gap=200, guessing=True)
        one = made.copy()
        two = one.copy()
        self.assertEqual([stand(one), stand(two)], [stand(made)] * 2)
        made.go(500)
        one.put((20, 0, "down", 0, 0))
        one.put((30, 0, "up", 0, 0))
        two.put((20, 0, "down", 0, 0))
        two.put((30, 0, "move", 10, 0))
        self.assertEqual(made.told()[1:], [(210, "t", 0, "tapped", (0, 0))])
        self.assertEqual(one.told()[1], (30, "t", 1, "guess", ()))
        self.assertEqual([made.places(), one.places(), two.places()], [{"all": 0}, {"all": 0}, {"all": 10}])
        self.assertEqual([each.moment() for each in (made, one, two)], [500, 30, 30])
        self.assertEqual(papers(made), [[("t", ("won", 210)), ("d", ("out", 210, "late")), ("q", ("out", 10, "up"))]])
        # A stroke that was going on goes on in its copy by itself.
        three = two.copy()
        two.put((40, 0, "up", 99, 0))
        self.assertEqual([two.fingers(), three.fingers()], [[], [0]])
        three.put((41, 0, "move", 12, 0))
        self.assertEqual(three.places(), {"all": 12})

    def test_a_copy_of_a_new_one(self):
        made = Reader(alone(TAP))
        self.assertEqual(stand(made.copy()), stand(made))
        made.copy().put((0, 0, "down", 0, 0))
        self.assertEqual(made.moment(), None)


if __name__ == "__main__":
    unittest.main()
