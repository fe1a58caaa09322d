"""Plays: plain touches [30], plays of a label [30], and what can come of a reader [31]."""

import unittest

import draws
from build import ALL, Asked, alone, papers, part, reader, scene, stand, state, touch
from strokeguess.errors import NoHope
from strokeguess.likeness import claimed, led
from strokeguess.machines import machine_of
from strokeguess.plays import leads, plain, play
from strokeguess.reader import Reader
from strokeguess.scenes import wishes_of
from strokeguess.touches import first_wrong, is_touch
from strokeguess.ways import corners

TAP = ("tap", "t", 1)
PRESS = ("press", "p", 500)
PULL = ("pull", "q", "any")


class Plain(Asked):
    def test_taps(self):
        for times in (1, 2, 3):
            wanted = []
            for at in range(times):
                wanted += [(7 + 50 * at, 4, "down", 5, 6), (17 + 50 * at, 4, "up", 5, 6)]
            self.assertEqual(plain(("tap", "t", times), 5, 6, 7, (4, 8)), wanted)

    def test_presses(self):
        for wait in (1, 500, 10000):
            self.assertEqual(plain(("press", "p", wait), 5, 6, 7, (4, 8)),
                             [(7, 4, "down", 5, 6), (17 + wait, 4, "up", 5, 6)])

    def test_pulls(self):
        for slop in (0, 18, 1000):
            for way, x, y in (("any", 6 + slop, 6), ("across", 6 + slop, 6), ("along", 5, 7 + slop)):
                self.assertEqual(plain(("pull", "q", way), 5, 6, 7, (4, 8), slop=slop),
                                 [(7, 4, "down", 5, 6), (17, 4, "move", x, y), (27, 4, "up", x, y)])

    def test_spread_and_turn(self):
        for kind, x, y in (("spread", 85, 6), ("turn", 5, 46)):
            for slop in (0, 1000):
                self.assertEqual(plain((kind, "s"), 5, 6, 7, (4, 2), slop=slop), [
                    (7, 4, "down", 5, 6), (7, 2, "down", 45, 6), (17, 2, "move", x, y), (27, 4, "up", 5, 6),
                    (27, 2, "up", x, y)])

    def test_made_ones(self):
        for machine in (machine_of(("tap", "t", 2)), (state(out=1), state(70, wait=2), state(up="claim"))):
            for slop in (0, 18):
                self.assertEqual(plain(("made", "m", machine), 5, 6, 7, (4, 8), slop=slop),
                                 led(claimed(machine), 5, 6, 7, 4, slop=slop))
        machine = (state(out=1), state(70, wait=2), state(up="claim"))
        self.assertEqual(plain(("made", "m", machine), 5, 6, 7, (4, 8)),
                         [(7, 4, "down", 5, 6), (7, 4, "move", 24, 6), (77, 4, "up", 5, 6)])

    def test_a_made_one_that_never_claims(self):
        for machine in ((state(),), (state(9, wait="give"),), (state(up="give"), state(up="claim"))):
            self.assertEqual(plain(("made", "m", machine), 5, 6, 7, (4, 8)), [])

    def test_a_made_one_whose_waits_at_the_end_are_long(self):
        machine = (state(up=1),) + tuple(state(10000, wait=at) for at in (2, "claim"))
        self.assertEqual(plain(("made", "m", machine), 5, 6, 7, (4, 8)), [(7, 4, "down", 5, 6), (7, 4, "up", 5, 6)])

    def test_slop_is_18_where_left_out_and_by_name(self):
        self.assertEqual(plain(PULL, 0, 0, 0, (0, 1)), plain(PULL, 0, 0, 0, (0, 1), slop=18))
        with self.assertRaises(TypeError):
            plain(PULL, 0, 0, 0, (0, 1), 18)

    def test_also_where_they_are_no_touches(self):
        self.assertEqual(plain(PULL, 9999, 0, 0, (0, 1))[1], (10, 0, "move", 10018, 0))
        self.assertEqual(plain(TAP, 0, 0, 10 ** 9, (0, 1))[1], (10 ** 9 + 10, 0, "up", 0, 0))
        self.assertEqual(plain(("spread", "s"), 10001, 0, -5, (0, 1))[0], (-5, 0, "down", 10001, 0))

    def test_the_same_wherever_they_are_asked(self):
        for seed in range(60):
            wish = draws.wish(draws.drawn(seed), "m")
            one = plain(wish, 0, 0, 0, (0, 1))
            self.assertEqual(plain(wish, 0, 0, 0, (0, 1)), one)
            moved = [(moment + 11, {0: 7, 1: 3}[finger], word, x + 5, y - 6) for moment, finger, word, x, y in one]
            self.assertEqual(plain(wish, 5, -6, 11, (7, 3)), moved)


def lone(wish, *, box=ALL, over=(), **by):
    """A part with a wish, within a plain one, and other parts over it."""
    return scene(part("all", parts=[part("it", wish, box=box), *over]), **by)


class Play(Asked):
    def test_of_each_kind_at_the_corner(self):
        machine = machine_of(("tap", "t", 2))
        for wish in (TAP, ("tap", "t", 2), ("tap", "t", 3), PRESS, ("press", "p", 1), ("press", "p", 10000), PULL,
                     ("pull", "q", "across"), ("pull", "q", "along"), ("spread", "s"), ("turn", "u"), ("made", "m", machine)):
            for slop in (0, 18, 1000):
                found = lone(wish, box=(10, 20, 100, 100))
                self.assertEqual(play(found, wish[1], slop=slop), plain(wish, 10, 20, 0, (0, 1), slop=slop), (wish, slop))
            self.assertEqual(play(found, wish[1]), plain(wish, 10, 20, 0, (0, 1)))

    def test_only_at_the_middle_at_the_last_corner_at_none(self):
        # 101 wide and 60 high: the middle is 50 and 30 on, the last corner 100 and 59.
        box = (10, 20, 101, 60)
        corner, middle, last = [part(name, box=place) for name, place in (
            ("a", (10, 20, 1, 1)), ("b", (60, 50, 1, 1)), ("c", (110, 79, 1, 1)))]
        for over, wanted in (([], (10, 20)), ([middle, last], (10, 20)), ([corner], (60, 50)), ([corner, last], (60, 50)),
                             ([corner, middle], (110, 79)), ([corner, middle, last], None)):
            found = lone(TAP, box=box, over=over)
            self.assertEqual(play(found, "t"), wanted and plain(TAP, *wanted, 0, (0, 1)))

    def test_a_part_of_one_place(self):
        self.assertEqual(play(lone(TAP, box=(3, 4, 1, 1)), "t"), plain(TAP, 3, 4, 0, (0, 1)))
        # Its parent is not there.
        self.assertIsNone(play(lone(TAP, box=(300, 4, 1, 1)), "t"))

    def test_where_another_wish_wins(self):
        self.assertIsNone(play(alone(TAP, ("tap", "d", 2)), "d"))
        self.assertEqual(play(alone(TAP, ("tap", "d", 2), heeds=[("t", "d")]), "d"), plain(("tap", "d", 2), 0, 0, 0, (0, 1)))
        self.assertEqual(play(alone(TAP, ("tap", "d", 2), heeds=[("t", "d")]), "t"), plain(TAP, 0, 0, 0, (0, 1)))
        self.assertIsNone(play(alone(PULL, ("pull", "r", "any")), "r"))
        self.assertIsNone(play(alone(("press", "p", 500), ("press", "r", 501)), "r"))

    def test_a_spread_whose_other_finger_is_beside_the_part(self):
        # From the corner and from the middle the other finger, 40 to the right, is beside the part.
        self.assertIsNone(play(lone(("spread", "s"), box=(0, 0, 40, 40)), "s"))
        self.assertEqual(play(lone(("spread", "s"), box=(0, 0, 41, 40)), "s"), plain(("spread", "s"), 0, 0, 0, (0, 1)))

    def test_by_gap(self):
        found = alone(("tap", "d", 2))
        for gap, wins in ((1, False), (40, False), (41, True), (10000, True)):
            self.assertEqual(play(found, "d", gap=gap), plain(("tap", "d", 2), 0, 0, 0, (0, 1)) if wins else None)

    def test_slop_and_gap_by_name(self):
        with self.assertRaises(TypeError):
            play(alone(TAP), "t", 18)

    def test_a_place_by_which_a_touch_would_be_none_is_passed_by(self):
        # At the corner the pull goes to 10000 and no further, from the middle it would.
        for left, top, way, wanted in ((9981, 0, "any", (9981, 0)), (9982, 0, "any", None), (0, 9982, "any", (0, 9982)),
                                       (0, 9982, "along", None), (0, 9981, "along", (0, 9981)), (9990, 0, "along", (9990, 0))):
            found = scene(part("all", ("pull", "q", way), box=(left, top, 10000, 10000)))
            self.assertEqual(play(found, "q"), wanted and plain(("pull", "q", way), *wanted, 0, (0, 1)), (left, top, way))
        # The corner is no place of a touch; the middle is.
        found = scene(part("a", parts=[part("b", parts=[part("c", TAP, box=(-5, 0, 10, 10))], box=(-10000, 0, 10000, 10))],
                           box=(-10, 0, 10000, 10)))
        self.assertIsNone(play(found, "t"))
        found = scene(part("a", TAP, box=(-10000, 0, 10, 10)))
        self.assertEqual(play(found, "t"), plain(TAP, -10000, 0, 0, (0, 1)))
        deep = part("b", TAP, box=(-10, 0, 10000, 10))
        found = scene(part("a", box=(-10000, 0, 10000, 10), parts=[deep]))
        self.assertEqual(play(found, "t"), plain(TAP, -10010 + 5000, 5, 0, (0, 1)))

    def test_with_shelves_at_their_first_places(self):
        found = scene(part("all", PULL, shelf=("across", -50, 50), parts=[part("it", TAP, box=(50, 50, 10, 10))]))
        self.assertEqual(play(found, "t"), plain(TAP, 50, 50, 0, (0, 1)))

    def test_time_passes_to_11000_behind_the_last_touch(self):
        # By the corner's tap the kept claim is won when the machine gives up.
        for wait, wins in ((1000, True), (1001, False)):
            machine = (state(up=1), state(10000, wait=2), state(wait, wait="give"))
            found = alone(TAP, ("made", "m", machine), heeds=[("t", "m")])
            self.assertEqual(play(found, "t"), plain(TAP, 0, 0, 0, (0, 1)) if wins else None)
            machine = (state(up=1), state(10000, wait=2), state(wait, wait="claim"))
            found = alone(("made", "m", machine))
            self.assertEqual(play(found, "m"), plain(("made", "m", machine), 0, 0, 0, (0, 1)) if wins else None)

    def test_a_made_one_that_never_claims_has_none(self):
        self.assertIsNone(play(alone(("made", "m", (state(),))), "m"))

    def test_no_hope_where_no_wish_has_the_label(self):
        found = lone(TAP)
        for label in ("all", "it", "tap", "x"):
            for ask in (lambda: play(found, label), lambda: leads(Reader(found), label)):
                with self.assertRaises(NoHope) as caught:
                    ask()
                self.assertEqual(vars(caught.exception), {"label": label})


class Leads(Asked):
    def test_of_a_new_reader_from_11000_on(self):
        found = lone(TAP, box=(10, 20, 30, 40))
        self.assertEqual(leads(Reader(found), "t"), plain(TAP, 10, 20, 11000, (0, 1)))

    def test_from_11000_behind_its_moment_on(self):
        for moment in (0, 1, 700):
            made = Reader(lone(PRESS))
            made.go(moment)
            self.assertEqual(leads(made, "p"), plain(PRESS, 0, 0, moment + 11000, (0, 1)))

    def test_by_the_least_two_fingers_that_arent_down(self):
        found = alone(("turn", "u"), PULL, beside=[("u", "q")])
        for down, free in (((0,), (1, 2)), ((1,), (0, 2)), ((0, 1, 3), (2, 4)), (tuple(range(8)), (8, 9)),
                           ((9, 8, 7, 6, 5, 4, 3, 1), (0, 2))):
            made = Reader(found)
            for finger in down:
                made.put((5, finger, "down", 900, 900))
            self.assertEqual(leads(made, "q"), plain(PULL, 0, 0, 11005, free))
            self.assertEqual(leads(made, "u"), plain(("turn", "u"), 0, 0, 11005, free))

    def test_nine_and_ten_fingers_down(self):
        for many in (9, 10):
            made = Reader(alone(TAP))
            for finger in range(many):
                made.put((5, finger, "down", 900, 900))
            self.assertIsNone(leads(made, "t"))
            with self.assertRaises(NoHope):
                leads(made, "x")

    def test_by_the_readers_slop_and_gap(self):
        made = Reader(alone(PULL, ("tap", "d", 2), beside=[("q", "d")]), slop=5, gap=40)
        self.assertEqual(leads(made, "q"), plain(PULL, 0, 0, 11000, (0, 1), slop=5))
        self.assertIsNone(leads(made, "d"))

    def test_by_the_places_of_its_shelves(self):
        button = part("it", TAP, box=(50, 50, 10, 10))
        made = reader(scene(part("all", PULL, shelf=("across", -50, 50), parts=[button])),
                      ("down", 0), ("move", 10, 30), ("up", 20, 30))
        self.assertEqual(leads(made, "t"), plain(TAP, 80, 50, 11020, (0, 1)))
        # Moved away to where its parent isn't, it can't be come to.
        far = scene(part("all", PULL, shelf=("across", -50, 150), parts=[button]))
        made = reader(far, ("down", 0), ("move", 10, 145), ("up", 20, 145))
        self.assertEqual(leads(made, "t"), plain(TAP, 195, 50, 11020, (0, 1)))
        made = reader(far, ("down", 0), ("move", 10, 150), ("up", 20, 150))
        self.assertIsNone(leads(made, "t"))

    def test_not_by_the_shown_places(self):
        button = part("it", TAP, box=(50, 50, 10, 10))
        found = scene(part("all", PULL, ("turn", "u"), shelf=("across", -50, 50), parts=[button]), [], [("q", "u")])
        made = reader(found, ("down", 0), ("move", 10, 30))
        self.assertEqual(made.shown(), {"all": 30})
        self.assertEqual(leads(made, "t"), plain(TAP, 50, 50, 11010, (1, 2)))

    def test_parts_out_and_back(self):
        found = scene(part("all", parts=[part("it", TAP), part("top", PRESS)]))
        made = reader(found, ("down", 0, 900, 900))
        self.assertIsNone(leads(made, "t"))
        made.out("top")
        self.assertEqual(leads(made, "t"), plain(TAP, 0, 0, 11000, (1, 2)))
        self.assertIsNone(leads(made, "p"))
        made.back()
        self.assertIsNone(leads(made, "t"))
        self.assertEqual(leads(made, "p"), plain(PRESS, 0, 0, 11000, (1, 2)))
        made.out("it")
        self.assertIsNone(leads(made, "t"))
        deep = scene(part("all", parts=[part("a", parts=[part("it", TAP)])]))
        made = Reader(deep)
        made.out("a")
        self.assertIsNone(leads(made, "t"))
        with self.assertRaises(NoHope):
            leads(made, "x")

    def test_hopes_that_wait_go_on(self):
        # A spread that has one finger is come to by the touches' first finger, and a new one by none.
        made = reader(alone(("spread", "s")), ("down", 0, 190, 190))
        self.assertIsNone(leads(made, "s"))
        made.put(touch("up", 5, 190, 190))
        self.assertEqual(leads(made, "s"), plain(("spread", "s"), 0, 0, 11005, (0, 1)))
        # A made one that waits for a finger without an end goes on by the touches.
        machine = (state(up=1), state(down=2), state(up="claim"), state())
        made = reader(alone(("made", "m", machine)), ("down", 0), ("up", 5))
        self.assertEqual(leads(made, "m"), plain(("made", "m", machine), 0, 0, 11005, (0, 1)))
        copied = made.copy()
        for row in leads(made, "m"):
            copied.put(row)
        self.assertEqual(copied.told(), [(11005, "m", 0, "tapped", (0, 0))])

    def test_a_win_in_another_contest_doesnt_count(self):
        # The press of the finger that is down wins as time passes; by the touches none does.
        covered = scene(part("all", parts=[part("it", ("press", "p", 10000)), part("a", box=(0, 0, 1, 1)),
                                           part("b", box=(100, 100, 1, 1)), part("c", box=(199, 199, 1, 1))]))
        made = reader(covered, ("down", 0, 160))
        self.assertIsNone(leads(made, "p"))

    def test_near_the_last_moment(self):
        for moment, wins in ((10 ** 9 - 11010, True), (10 ** 9 - 11009, False), (10 ** 9, False)):
            made = Reader(alone(TAP))
            made.go(moment)
            self.assertEqual(leads(made, "t"), plain(TAP, 0, 0, moment + 11000, (0, 1)) if wins else None)
        # Time passes to the last moment at most, so the wait behind the touches may be cut off.
        found = alone(("made", "m", (state(up=1), state(500, wait="claim"))))
        for moment, wins in ((10 ** 9 - 11500, True), (10 ** 9 - 11499, False)):
            made = Reader(found)
            made.go(moment)
            self.assertEqual(leads(made, "m") is not None, wins)

    def test_the_reader_stays_as_it_is(self):
        found = scene(part("all", PULL, ("spread", "s"), shelf=("across", -50, 50), ear="hear",
                           parts=[part("it", TAP, ("tap", "d", 2), box=(0, 0, 90, 90))]), [("t", "d")], [("q", "s"), ("t", "d")])
        made = reader(found, ("down", 0), ("move", 5, 30), ("down", 7, 9, 9, 1), ("up", 9, 9, 9, 1), guessing=True)
        made.out("it")
        made.back()
        before = stand(made)
        for label in "tdqs":
            told = leads(made, label)
            self.assertEqual(leads(made, label), told)
            if told:
                told.clear()
            self.assertEqual(stand(made), before)


class Drawn(Asked):
    def test_plays_are_won_and_where_there_is_none_no_place_wins(self):
        count = 0
        for seed in range(60):
            draw = draws.drawn(seed)
            found = draws.scene(draw, 0.3)
            made = Reader(found)
            for row in draws.touches(draw, draw.choice([0, 5, 20]), 3):
                made.put(row)
            for name, wish in wishes_of(found):
                label = wish[1]
                self.assertEqual(play(found, label), self.first(Reader(found), found, name, wish, 0), (seed, label))
                begin = 11000 if made.moment() is None else made.moment() + 11000
                self.assertEqual(leads(made, label), self.first(made, found, name, wish, begin), (seed, label))
                count += leads(made, label) is not None
        self.assertGreater(count, 100)

    def first(self, made, found, name, wish, begin):
        box = [one[1] for one in walk(found[0]) if one[0] == name][0]
        x, y = corners(found, places=made.places())[name]
        fingers = tuple(finger for finger in range(10) if finger not in made.fingers())[:2]
        for dx, dy in ((0, 0), (box[2] // 2, box[3] // 2), (box[2] - 1, box[3] - 1)):
            touches = plain(wish, x + dx, y + dy, begin, fingers)
            if touches and all(is_touch(row) for row in touches):
                other, known = made.copy(), made.many_strokes()
                for row in touches:
                    other.put(row)
                other.go(touches[-1][0] + 11000)
                if any((wish[1], "won") in [(label, how[0]) for label, how in sheet] for sheet in papers(other)[known:]):
                    return touches
        return None

    def test_plays_are_right_rows(self):
        for seed in range(30):
            found = draws.scene(draws.drawn(seed))
            for _, wish in wishes_of(found):
                self.assertIsNone(first_wrong(play(found, wish[1]) or []))


def walk(one):
    yield one
    for inner in one[5]:
        yield from walk(inner)


if __name__ == "__main__":
    unittest.main()
