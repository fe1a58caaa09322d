"""Hopes in their contests: how they come [13], give up and claim [14], win [15], are kept [16], in order [17, 18]."""

import unittest

from build import Asked, alone, papers, part, reader, scene, state, touch
from strokeguess.machines import machine_of

TAP = ("tap", "t", 1)
TWICE = ("tap", "d", 2)
THRICE = ("tap", "e", 3)
PRESS = ("press", "p", 500)
PULL = ("pull", "q", "any")
SPREAD = ("spread", "s")
TURN = ("turn", "u")
LEFT = (0, 0, 100, 200)
RIGHT = (100, 0, 100, 200)


class Coming(Asked):
    def test_the_innermost_part_first_and_wishes_in_order(self):
        deep = part("in", ("tap", "x", 1), ("press", "a", 9), box=(50, 50, 50, 50))
        found = scene(part("all", PULL, TAP, parts=[part("mid", ("tap", "z", 2), ("spread", "b"), parts=[deep]),
                                                   part("off", ("tap", "o", 1), box=(0, 0, 9, 9))]))
        made = reader(found, ("down", 0, 60, 60), ("down", 0, 20, 20, 1), ("down", 0, 3, 3, 2), ("down", 0, 500, 500, 3))
        self.assertEqual([made.labels(at) for at in range(4)],
                         [["x", "a", "z", "b", "q", "t"], ["z", "b", "q", "t"], ["o", "q", "t"], []])

    def test_a_tap_goes_on_in_a_later_strokes_contest(self):
        for times, label in ((2, "d"), (3, "e")):
            rows = []
            for at in range(times):
                rows += [("down", 20 * at, at, 0, at), ("up", 20 * at + 10, at, 0, at)]
            made = self.reads(alone(("tap", label, times)), rows,
                              [(20 * times - 10, label, 0, "tapped", (times - 1, 0))])
            self.assertEqual(papers(made), [[(label, ("won", 20 * times - 10))]] * times)

    def test_the_eldest_one_by_its_first_stroke_comes(self):
        # Finger 1 is up first, yet the next down is the first stroke's.
        rows = [("down", 0), ("down", 1, 0, 0, 1), ("up", 2, 0, 0, 1), ("up", 3), ("down", 4), ("up", 5)]
        made = self.reads(alone(TWICE), rows, [(5, "d", 0, "tapped", (0, 0))])
        self.assertEqual(papers(made), [[("d", ("won", 5))], [("d", ("stands",))], [("d", ("won", 5))]])

    def test_of_three_waiting_ones_each_comes_in_its_turn(self):
        rows = [("down", at, 0, 0, at) for at in range(3)] + [("up", 9 - at, 0, 0, at) for at in (2, 1, 0)]
        rows += [("down", 10 + at, 0, 0, at) for at in range(3)] + [("up", 20 + at, 0, 0, at) for at in range(3)]
        self.reads(alone(TWICE), rows, [(20 + at, "d", at, "tapped", (0, 0)) for at in range(3)])

    def test_a_second_and_a_third_finger_of_a_spread_and_a_turn(self):
        for wish in (SPREAD, TURN):
            label = wish[1]
            made = reader(alone(wish), ("down", 0), ("down", 1, 40, 0, 1), ("down", 2, 80, 0, 2), ("down", 3, 90, 0, 3),
                          ("up", 4, 40, 0, 1), ("down", 5, 10, 0, 1))
            self.assertEqual(papers(made), [[(label, ("out", 4, "up"))]] * 2 + [[(label, ("stands",))]] * 3)
            # The third and the fourth finger are one hope's, the fifth one's is new.
            made.put(touch("up", 6, 90, 0, 3))
            self.assertEqual(papers(made)[2:], [[(label, ("out", 6, "up"))]] * 2 + [[(label, ("stands",))]])

    def test_the_first_difference_is_by_the_first_fingers_place_at_the_second_ones_down(self):
        rows = [("down", 0), ("move", 1, 17, 0), ("down", 2, 57, 0, 1), ("move", 3, 68, 0, 1)]
        self.assertEqual(reader(alone(SPREAD), *rows).told()[1], (3, "s", 0, "moved", (40, 0, 51, 0)))

    def test_a_finger_elsewhere_doesnt_come(self):
        found = scene(part("all", parts=[part("a", TWICE, SPREAD, box=LEFT), part("b", THRICE, TURN, box=RIGHT)]))
        made = reader(found, ("down", 0, 10), ("down", 1, 110, 0, 1), ("up", 2, 10), ("down", 3, 120, 0, 2), ("down", 4, 20))
        self.assertEqual([made.labels(at) for at in range(4)], [["d", "s"], ["e", "u"], ["e", "u"], ["d", "s"]])
        made.put(touch("up", 5, 20))
        self.assertEqual(made.told(), [(5, "d", 0, "tapped", (20, 0))])

    def test_a_made_one_waits_for_a_finger(self):
        wish = ("made", "m", (state(up=1), state(100, down=2, wait=3), state(up="claim"), state(50, wait="give")))
        rows = [("down", 0), ("up", 10), ("down", 109), ("up", 120)]
        self.reads(alone(wish), rows, [(120, "m", 0, "tapped", (0, 0))])
        rows[2:] = [("down", 110), ("up", 120)]
        made = self.reads(alone(wish), rows, [], until=200)
        self.assertEqual(papers(made), [[("m", ("out", 160, "made"))], [("m", ("stands",))]])

    def test_one_that_claimed_is_come_to_no_more(self):
        found = alone(TWICE, ("tap", "e", 3), heeds=[("d", "e")])
        rows = [("down", 0), ("up", 1), ("down", 2), ("up", 3), ("down", 4)]
        made = reader(found, *rows)
        self.hows(made, (0, "d", ("kept", 3)), (1, "d", ("kept", 3)), (2, "d", ("stands",)), (2, "e", ("stands",)))


class Whys(Asked):
    def out(self, wish, rows, *how, until=None, **by):
        made = reader(alone(wish), *rows, until=until, **by)
        self.assertEqual(made.how(0, wish[1]), how, (wish, rows))

    def test_tap(self):
        self.out(TAP, [("down", 0), ("move", 1, 18)], "stands")
        self.out(TAP, [("down", 0), ("move", 1, 19)], "out", 1, "moved")
        self.out(TAP, [("down", 0), ("up", 1, 0, 19)], "out", 1, "moved")
        self.out(TAP, [("down", 0), ("up", 1, 0, 18)], "won", 1)
        self.out(TAP, [("down", 0), ("lost", 1, 90, 90)], "out", 1, "lost")
        self.out(TWICE, [("down", 0), ("up", 100)], "stands", until=399)
        self.out(TWICE, [("down", 0), ("up", 100)], "out", 400, "late", until=400)
        self.out(TWICE, [("down", 0), ("up", 100), ("down", 399)], "stands", until=9999)
        self.out(TWICE, [("down", 0), ("up", 100), ("down", 400)], "out", 400, "late")
        self.out(TWICE, [("down", 0), ("up", 1), ("down", 2, 9), ("lost", 5)], "out", 5, "lost")
        self.out(TWICE, [("down", 0), ("up", 1), ("down", 2, 9), ("move", 5, 28)], "out", 5, "moved")

    def test_press(self):
        self.out(PRESS, [("down", 0), ("move", 499, 19)], "out", 499, "moved")
        self.out(PRESS, [("down", 0), ("move", 500, 19)], "won", 500)
        self.out(PRESS, [("down", 0), ("move", 499, 18)], "won", 500, until=500)
        self.out(PRESS, [("down", 0), ("up", 499)], "out", 499, "up")
        self.out(PRESS, [("down", 0), ("up", 499, 19)], "out", 499, "moved")
        self.out(PRESS, [("down", 0), ("up", 500)], "won", 500)
        self.out(PRESS, [("down", 0), ("lost", 499, 90)], "out", 499, "lost")

    def test_pull(self):
        self.out(PULL, [("down", 0), ("move", 1, 18)], "stands")
        self.out(PULL, [("down", 0), ("move", 1, 19)], "won", 1)
        self.out(PULL, [("down", 0), ("up", 1, 19)], "out", 1, "up")
        self.out(PULL, [("down", 0), ("lost", 1, 19)], "out", 1, "lost")

    def test_spread_and_turn(self):
        for wish in (SPREAD, TURN):
            for word in ("up", "lost"):
                self.out(wish, [("down", 0), (word, 1)], "out", 1, word)
                for finger in (0, 1):
                    self.out(wish, [("down", 0), ("down", 1, 40, 0, 1), (word, 2, 40, 90, finger)], "out", 2, word)

    def test_made(self):
        self.out(("made", "m", (state(up=1), state(9, wait="give"))), [("down", 0), ("up", 5)], "out", 14, "made", until=14)
        self.out(("made", "m", (state(up=1), state(9, wait="give"))), [("down", 0), ("up", 5)], "stands", until=13)
        self.out(("made", "m", (state(up="claim"),)), [("down", 0), ("up", 5, 19)], "out", 5, "made")
        self.out(("made", "m", (state(up="claim", out=0),)), [("down", 0), ("move", 3, 19), ("up", 5, 18)], "won", 5)
        self.out(("made", "m", (state(up=0),)), [("down", 0), ("up", 5)], "out", 5, "made")
        self.out(("made", "m", (state(up=0),)), [("down", 0), ("lost", 5)], "out", 5, "lost")

    def test_giving_up_goes_ahead_of_claiming(self):
        self.out(TAP, [("down", 0), ("up", 1, 19)], "out", 1, "moved")
        self.out(("tap", "t", 3), [("down", 0), ("up", 1), ("down", 2), ("up", 3, 19)], "out", 3, "moved")

    def test_a_kept_press_gives_up_by_up_and_lost_alone(self):
        found = alone(PRESS, PULL, heeds=[("p", "q")])
        for rows, how in (([("move", 510, 18)], ("kept", 500)), ([("up", 510)], ("out", 510, "up")),
                          ([("lost", 510)], ("out", 510, "lost")), ([("up", 510, 900)], ("out", 510, "up"))):
            self.assertEqual(reader(found, ("down", 0), *rows, until=600).how(0, "p"), how)


class Wins(Asked):
    def test_who_wins_puts_out_all_that_stand_but_those_beside_it(self):
        found = alone(PRESS, TAP, PULL, ("spread", "s"), beside=[("p", "q"), ("s", "t")])
        made = reader(found, ("down", 0), until=500)
        self.hows(made, (0, "p", ("won", 500)), (0, "t", ("out", 500, "to", "p", 0)), (0, "q", ("stands",)),
                  (0, "s", ("out", 500, "to", "p", 0)))
        made.put(touch("move", 600, 19))
        self.assertEqual([row[1:4] for row in made.told()],
                         [("p", 0, "began"), ("p", 0, "moved"), ("q", 0, "began"), ("q", 0, "moved"), ("q", 0, "over")])

    def test_beside_goes_either_way(self):
        for pair in (("p", "q"), ("q", "p")):
            found = alone(PRESS, PULL, beside=[pair])
            self.assertEqual(reader(found, ("down", 0), until=500).how(0, "q"), ("stands",))
            self.assertEqual(reader(found, ("down", 0), ("move", 1, 9), ("move", 600, 19)).how(0, "q"), ("won", 600))
        # It goes from one to the other alone, not further.
        found = alone(PRESS, PULL, TAP, beside=[("p", "q"), ("q", "t")])
        self.hows(reader(found, ("down", 0), until=500), (0, "q", ("stands",)), (0, "t", ("out", 500, "to", "p", 0)))

    def test_one_that_has_won_already_is_put_out_by_none(self):
        found = alone(PRESS, PULL, TAP, beside=[("p", "q")])
        made = reader(found, ("down", 0), ("move", 600, 19))
        self.hows(made, (0, "p", ("won", 500)), (0, "q", ("won", 600)), (0, "t", ("out", 500, "to", "p", 0)))

    def test_in_all_contests_of_its(self):
        # The spread stands in two contests; whoever is in either of them is out by its win, and in all contests at once.
        found = scene(part("all", SPREAD, TWICE, parts=[part("a", ("press", "a", 900), box=LEFT),
                                                       part("b", ("press", "b", 900), box=RIGHT)]))
        made = reader(found, ("down", 0, 80), ("down", 1, 120, 0, 1), ("move", 2, 131, 0, 1))
        to = ("out", 2, "to", "s", 0)
        self.assertEqual(papers(made), [[("a", to), ("s", ("won", 2)), ("d", to)], [("b", to), ("s", ("won", 2)), ("d", to)]])

    def test_a_win_in_one_contest_puts_out_one_that_stands_in_several(self):
        found = scene(part("all", SPREAD, parts=[part("a", PULL, box=LEFT)]))
        made = reader(found, ("down", 0, 120), ("down", 1, 50, 0, 1), ("move", 2, 69, 0, 1), ("move", 3, 190))
        self.assertEqual(papers(made), [[("s", ("out", 2, "to", "q", 1))], [("q", ("won", 2)), ("s", ("out", 2, "to", "q", 1))]])
        self.assertEqual([row[3] for row in made.told()], ["began", "moved", "over"])

    def test_contests_without_a_hope_of_its_stay(self):
        made = reader(alone(PRESS, PULL, TAP), ("down", 0), ("down", 100, 0, 0, 1), until=500)
        self.assertEqual([made.how(at, "q")[0] for at in (0, 1)], ["out", "stands"])

    def test_to_tells_the_first_stroke_of_the_one_that_won(self):
        found = alone(TWICE, TAP, PRESS, heeds=[("t", "d")])
        made = reader(found, ("down", 0, 0, 0, 5), ("down", 1), ("up", 2), ("down", 3), ("up", 4))
        self.hows(made, (1, "d", ("won", 4)), (2, "d", ("won", 4)), (1, "t", ("out", 4, "to", "d", 1)),
                  (2, "p", ("out", 4, "to", "d", 1)), (0, "p", ("stands",)), (1, "p", ("out", 2, "up")))


class Kept(Asked):
    def test_a_claim_is_kept_where_one_that_it_heeds_stands(self):
        found = alone(TAP, TWICE, heeds=[("t", "d")])
        made = reader(found, ("down", 0), ("up", 10), until=309)
        self.hows(made, (0, "t", ("kept", 10)), (0, "d", ("stands",)))
        self.assertEqual(made.told(), [])
        # Won where what it heeds is out.
        self.assertEqual(made.go(310), [(310, "t", 0, "tapped", (0, 0))])
        self.hows(made, (0, "t", ("won", 310)), (0, "d", ("out", 310, "late")))

    def test_not_where_it_is_out_or_has_won_or_is_heeded_the_other_way_about(self):
        self.reads(alone(PRESS, TAP, heeds=[("t", "p")]), [("down", 0), ("up", 10)], [(10, "t", 0, "tapped", (0, 0))])
        self.reads(alone(TAP, TWICE, heeds=[("d", "t")]), [("down", 0), ("up", 10)], [(10, "t", 0, "tapped", (0, 0))])
        found = alone(PRESS, PULL, beside=[("p", "q")], heeds=[("q", "p")])
        made = reader(found, ("down", 0), ("move", 500, 19))
        self.hows(made, (0, "p", ("won", 500)), (0, "q", ("won", 500)))

    def test_out_by_another_ones_win(self):
        found = alone(TAP, TWICE, heeds=[("t", "d")])
        made = reader(found, ("down", 0), ("up", 10), ("down", 20), ("up", 30))
        self.hows(made, (0, "t", ("out", 30, "to", "d", 0)), (1, "t", ("out", 30, "to", "d", 0)))
        self.assertEqual(made.told(), [(30, "d", 0, "tapped", (0, 0))])

    def test_out_by_its_fingers_up_and_lost(self):
        found = alone(PULL, SPREAD, heeds=[("q", "s")])
        for word in ("up", "lost"):
            made = reader(found, ("down", 0), ("move", 1, 19), (word, 2, 50))
            self.hows(made, (0, "q", ("out", 2, word)), (0, "s", ("out", 2, word)))
            self.assertEqual(made.told(), [])

    def test_a_kept_pull_behind_what_it_heeds_wins_at_the_very_up(self):
        found = alone(SPREAD, PULL, heeds=[("q", "s")])
        made = self.reads(found, [("down", 0), ("move", 1, 19), ("up", 200, 50, 5)], [
            (200, "q", 0, "began", ()), (200, "q", 0, "moved", (50, 5)), (200, "q", 0, "over", (50, 5)),
            (200, "q", 0, "ended", ()),
        ])
        self.hows(made, (0, "q", ("won", 200)), (0, "s", ("out", 200, "up")))
        # By a lost finger, of which the place counts for nothing, it is off at once.
        self.reads(found, [("down", 0), ("move", 1, 19), ("lost", 200, 50, 5)], [
            (200, "q", 0, "began", ()), (200, "q", 0, "moved", (19, 0)), (200, "q", 0, "over", (19, 0)),
            (200, "q", 0, "off", ()),
        ])

    def test_what_is_heeded_in_any_of_its_contests_counts(self):
        # The press stands in the first finger's contest alone.
        found = scene(part("all", SPREAD, parts=[part("a", ("press", "a", 300), box=LEFT)]), [], [("s", "a")])
        rows = [("down", 0, 50), ("down", 1, 120, 0, 1), ("move", 2, 180, 0, 1)]
        made = reader(found, *rows)
        self.hows(made, (1, "s", ("kept", 2)))
        self.assertEqual(made.put(touch("move", 9, 69)), [(9, "s", 0, "began", ()), (9, "s", 0, "moved", (70, 0, 111, 0))])
        made = reader(found, *rows, until=300)
        self.hows(made, (0, "s", ("out", 300, "to", "a", 0)), (0, "a", ("won", 300)))

    def test_one_that_it_heeds_in_another_contest_doesnt_count(self):
        found = alone(PRESS, TAP, heeds=[("t", "p")])
        rows = [("down", 0), ("down", 1, 0, 0, 1), ("up", 2, 0, 0, 1)]
        self.hows(self.reads(found, rows, [(2, "t", 1, "tapped", (0, 0))]),
                  (1, "t", ("won", 2)), (1, "p", ("out", 2, "up")), (0, "p", ("stands",)))


class Rows(Asked):
    """Kept claims that heed one another."""

    def test_a_row_of_three_is_won_by_the_one_that_heeds_none(self):
        # t heeds d heeds e: at the third tap's lateness d wins, t is out by it.
        found = alone(TAP, TWICE, THRICE, heeds=[("t", "d"), ("d", "e")])
        rows = [("down", 0), ("up", 10), ("down", 20), ("up", 30)]
        made = reader(found, *rows)
        self.hows(made, (0, "t", ("kept", 10)), (1, "t", ("kept", 30)), (0, "d", ("kept", 30)), (0, "e", ("stands",)))
        made.go(330)
        self.assertEqual(made.told(), [(330, "d", 0, "tapped", (0, 0))])
        self.hows(made, (0, "t", ("out", 330, "to", "d", 0)), (1, "t", ("out", 330, "to", "d", 0)))

    def test_a_single_tap_waits_for_both(self):
        found = alone(TAP, TWICE, THRICE, heeds=[("t", "d"), ("d", "e"), ("t", "e")])
        self.reads(found, [("down", 0), ("up", 10)], [(310, "t", 0, "tapped", (0, 0))], until=310)

    def test_beside_one_another_all_win_from_the_first_one_on(self):
        # a heeds b heeds c heeds the press, all of them beside one another: none is put out, and each frees the next.
        wishes = [("pull", sign, "any") for sign in "abc"]
        beside = [("a", "b"), ("a", "c"), ("b", "c"), ("a", "p"), ("b", "p"), ("c", "p")]
        heeds = [("a", "b"), ("b", "c"), ("c", "s")]
        found = alone(*wishes, SPREAD, ("press", "p", 50), beside=beside, heeds=heeds)
        made = reader(found, ("down", 0), ("move", 60, 18), ("move", 61, 19))
        self.hows(made, (0, "p", ("won", 50)), (0, "s", ("out", 50, "to", "p", 0)))
        self.assertEqual([row[1] for row in made.told() if row[3] == "began"], ["p", "c", "b", "a"])

    def test_kept_ones_win_one_by_one_looked_at_from_the_first_one_on(self):
        # All three heed the spread alone; the first one in order wins first, though it claimed last.
        wishes = [("pull", "a", "along"), ("pull", "b", "across"), ("pull", "c", "any")]
        beside = [("a", "b"), ("a", "c"), ("b", "c")]
        found = alone(SPREAD, *wishes, beside=beside, heeds=[(sign, "s") for sign in "abc"])
        made = reader(found, ("down", 0), ("move", 1, 14, 14), ("move", 2, 19, 14), ("move", 3, 19, 19))
        self.hows(made, (0, "a", ("kept", 3)), (0, "b", ("kept", 2)), (0, "c", ("kept", 1)))
        made.put(touch("up", 4, 19, 19))
        self.assertEqual([row[1:4] for row in made.told() if row[3] in ("began", "ended")],
                         [(sign, 0, "began") for sign in "abc"] + [(sign, 0, "ended") for sign in "abc"])

    def test_not_beside_the_first_one_puts_the_others_out(self):
        wishes = [("pull", "a", "along"), ("pull", "b", "across"), ("pull", "c", "any")]
        found = alone(SPREAD, *wishes, heeds=[(sign, "s") for sign in "abc"])
        made = reader(found, ("down", 0), ("move", 1, 14, 14), ("move", 2, 19, 14), ("move", 3, 19, 19), ("up", 4, 19, 19))
        to = ("out", 4, "to", "a", 0)
        self.hows(made, (0, "a", ("won", 4)), (0, "b", to), (0, "c", to), (0, "s", ("out", 4, "up")))

    def test_a_win_frees_one_ahead_of_the_next_in_order(self):
        # c wins first, as a heeds c; behind it a is looked at ahead of d, which nothing held any more either.
        wishes = [("pull", sign, "any") for sign in "acd"]
        beside = [("a", "c"), ("a", "d"), ("c", "d")]
        found = alone(SPREAD, *wishes, beside=beside, heeds=[("a", "c"), ("c", "s"), ("d", "s")])
        made = reader(found, ("down", 0), ("move", 1, 19), ("up", 2, 19))
        self.assertEqual([row[1] for row in made.told() if row[3] == "began"], ["c", "a", "d"])

    def test_a_pair_beside_one_another_that_heeds(self):
        # The press heeds the pull beside it: it wins as soon as that one has won.
        found = alone(PRESS, PULL, beside=[("p", "q")], heeds=[("p", "q")])
        made = reader(found, ("down", 0), until=600)
        self.hows(made, (0, "p", ("kept", 500)))
        made.put(touch("move", 700, 19, 0))
        self.assertEqual(made.told(), [
            (700, "q", 0, "began", ()), (700, "q", 0, "moved", (19, 0)), (700, "q", 0, "over", (19, 0)),
            (700, "p", 0, "began", ()),
        ])

    def test_by_their_first_contests_stroke(self):
        # A kept claim of the later stroke stands ahead in its own contest, but the earlier stroke's comes first.
        left = part("a", ("pull", "x", "any"), box=LEFT)
        right = part("b", ("pull", "y", "any"), box=RIGHT)
        found = scene(part("all", SPREAD, parts=[left, right]), [], [("x", "s"), ("y", "s")])
        for order in ((110, 10), (10, 110)):
            one, other = order
            made = reader(found, ("down", 0, one), ("down", 1, other, 0, 1), ("move", 2, other, 19, 1), ("move", 3, one, 19))
            self.assertEqual(made.told(), [])
            made.put(touch("up", 4, one, 19))
            names = ["y", "x"] if order == (110, 10) else ["x", "y"]
            self.hows(made, (0, names[0], ("out", 4, "up")), (1, names[1], ("won", 4)))


class Asking(Asked):
    def test_what_comes_of_one_comes_ahead_of_the_next_one(self):
        # At the up the press gives up, the tap behind it wins by that, and puts the pull out ahead of its giving up.
        found = alone(PRESS, TAP, PULL, heeds=[("t", "p")])
        made = reader(found, ("down", 0), ("up", 5))
        self.hows(made, (0, "p", ("out", 5, "up")), (0, "t", ("won", 5)), (0, "q", ("out", 5, "to", "t", 0)))
        found = alone(PULL, PRESS, TAP, heeds=[("t", "p")])
        self.hows(reader(found, ("down", 0), ("up", 5)), (0, "q", ("out", 5, "up")), (0, "t", ("won", 5)))
        # Ahead of what it heeds the tap's claim is kept, and then won.
        found = alone(TAP, PULL, PRESS, heeds=[("t", "p")])
        self.hows(reader(found, ("down", 0), ("up", 5)), (0, "q", ("out", 5, "up")), (0, "t", ("won", 5)))
        found = alone(TAP, PRESS, PULL, heeds=[("t", "p")])
        self.hows(reader(found, ("down", 0), ("up", 5)), (0, "q", ("out", 5, "to", "t", 0)), (0, "t", ("won", 5)))

    def test_one_that_wins_amid_a_move_tells_of_that_very_touch_once(self):
        found = alone(TAP, PULL, heeds=[("q", "t")])
        self.reads(found, [("down", 0), ("move", 1, 19)], [
            (1, "q", 0, "began", ()), (1, "q", 0, "moved", (19, 0)), (1, "q", 0, "over", (19, 0))])
        # Ahead of what it heeds, too: its claim is kept, and won by the tap's giving up behind it.
        found = alone(PULL, TAP, heeds=[("q", "t")])
        self.reads(found, [("down", 0), ("move", 1, 19)], [
            (1, "q", 0, "began", ()), (1, "q", 0, "moved", (19, 0)), (1, "q", 0, "over", (19, 0))])

    def test_a_press_that_wins_amid_an_up_is_told_by_its_place(self):
        found = alone(PULL, PRESS, heeds=[("p", "q")])
        self.reads(found, [("down", 0), ("move", 10, 3, 3), ("up", 600, 9, 9)],
                   [(600, "p", 0, "began", ()), (600, "p", 0, "ended", ())])
        self.reads(found, [("down", 0), ("move", 10, 3, 3), ("lost", 600, 9, 9)],
                   [(600, "p", 0, "began", ()), (600, "p", 0, "off", ())])

    def test_a_made_one_that_wins_amid_an_up_of_which_it_wasnt_asked(self):
        machine = (state(9, wait="claim", up="claim"),)
        for first, wanted in ((PULL, ["began", "ended"]), (None, [])):
            wishes = (PULL, ("made", "m", machine)) if first else (("made", "m", machine), PULL)
            made = reader(alone(*wishes, heeds=[("m", "q")]), ("down", 0), ("up", 600))
            self.assertEqual([row[3] for row in made.told()], wanted)
        # One that claims at the very up was asked of it.
        machine = (state(up="claim"),)
        for wishes in ((PULL, ("made", "m", machine)), (("made", "m", machine), PULL)):
            made = reader(alone(*wishes, heeds=[("m", "q")]), ("down", 0), ("up", 600, 5, 5))
            self.assertEqual(made.told(), [(600, "m", 0, "tapped", (5, 5))])

    def test_a_spread_that_wins_amid_the_other_fingers_touch(self):
        found = scene(part("all", SPREAD, parts=[part("a", PRESS, box=LEFT)]), [], [("s", "p")])
        rows = [("down", 0, 120), ("down", 1, 80, 0, 1), ("move", 2, 180), ("up", 3, 70, 0, 1)]
        self.reads(found, rows, [
            (3, "s", 0, "began", ()), (3, "s", 0, "moved", (-40, 0, -110, 0)), (3, "s", 0, "ended", ())])

    def test_downs_are_gone_through_when_all_have_come(self):
        # The made one claims at the later down; the press and the tap, new ones, have come and are out by it.
        found = alone(("made", "m", (state(up=1), state(down="claim"))), PRESS, TAP)
        made = reader(found, ("down", 0), ("down", 1, 0, 0, 1), ("up", 2), ("down", 3), until=9)
        self.assertEqual(made.told(), [(2, "t", 0, "tapped", (0, 0))])
        found = alone(("made", "m", (state(up=1), state(down="claim"))), PRESS, ("tap", "d", 2))
        made = reader(found, ("down", 0), ("up", 2), ("down", 3), until=9)
        self.assertEqual(made.told(), [(3, "m", 0, "began", ())])
        to = ("out", 3, "to", "m", 0)
        self.assertEqual(papers(made)[1], [("m", ("won", 3)), ("p", to), ("d", to)])

    def test_a_made_one_takes_its_step_by_down_in_its_turn(self):
        # Both step at the down; the first one in order claims, and the second one is out ahead of its step.
        machine = (state(up=1), state(down="claim"))
        for order in (("m", "n"), ("n", "m")):
            found = alone(*[("made", label, machine) for label in order])
            made = reader(found, ("down", 0), ("up", 1), ("down", 2))
            self.hows(made, (0, order[0], ("won", 2)), (0, order[1], ("out", 2, "to", order[0], 0)))

    def test_give_at_the_down(self):
        found = alone(("made", "m", (state(up=1), state(down="give"))), TAP, heeds=[("t", "m")])
        made = reader(found, ("down", 0), ("up", 1), ("down", 2))
        self.assertEqual(made.told(), [(2, "t", 0, "tapped", (0, 0))])


class Waits(Asked):
    def test_they_end_at_their_moments_however_time_is_told(self):
        for moments in ([], [499], [500], [1, 2, 3, 499, 500, 501, 799], [10 ** 9]):
            made = reader(alone(PRESS, TAP), ("down", 0))
            for moment in moments:
                made.go(moment)
            if not moments or moments[-1] < 500:
                made.go(10 ** 9 - 1)
            self.assertEqual(made.told(), [(500, "p", 0, "began", ())])

    def test_ahead_of_a_touch_of_their_moment(self):
        self.assertEqual(reader(alone(PRESS, TAP), ("down", 0), ("up", 500)).told(),
                         [(500, "p", 0, "began", ()), (500, "p", 0, "ended", ())])
        self.assertEqual(reader(alone(PRESS, TAP), ("down", 0), ("up", 499)).told(), [(499, "t", 0, "tapped", (0, 0))])
        made = reader(alone(PRESS, PULL), ("down", 0), ("move", 500, 19))
        self.assertEqual(made.told(), [(500, "p", 0, "began", ()), (500, "p", 0, "moved", (19, 0))])
        # Of any finger.
        self.assertEqual(reader(alone(PRESS), ("down", 0), ("down", 500, 900, 900, 1)).told(), [(500, "p", 0, "began", ())])

    def test_at_one_moment_by_the_touch_from_which_they_are_counted(self):
        # The short press comes down later and ends at the same moment; the earlier down's is first.
        found = scene(part("all", parts=[part("a", ("press", "a", 500), box=LEFT), part("b", ("press", "b", 100), box=RIGHT)]))
        rows = [("down", 0, 10), ("down", 400, 110, 0, 1)]
        self.assertEqual([row[1] for row in reader(found, *rows, until=500).told()], ["a", "b"])
        # At one moment the touches go by the order in which they are told.
        found = scene(part("all", parts=[part("a", ("press", "a", 500), box=LEFT), part("b", ("press", "b", 500), box=RIGHT)]))
        for first, second in ((10, 110), (110, 10)):
            rows = [("down", 0, first), ("down", 0, second, 0, 1)]
            self.assertEqual([row[1] for row in reader(found, *rows, until=500).told()],
                             ["a", "b"] if first == 10 else ["b", "a"])

    def test_a_tap_is_late_by_its_up(self):
        # d is late at 400 by its up at 100; the press is counted from 0 or from 200.
        found = scene(part("all", parts=[part("a", TAP, TWICE, box=LEFT), part("b", ("press", "b", 200), box=RIGHT),
                                        ]), [], [("t", "d")])
        rows = [("down", 0, 10), ("up", 100, 10), ("down", 200, 110, 0, 1)]
        self.assertEqual([row[1] for row in reader(found, *rows, until=400).told()], ["t", "b"])
        found = scene(part("all", parts=[part("a", TAP, TWICE, box=LEFT), part("b", ("press", "b", 350), box=RIGHT),
                                        ]), [], [("t", "d")])
        rows = [("down", 0, 10), ("down", 50, 110, 0, 1), ("up", 100, 10)]
        self.assertEqual([row[1] for row in reader(found, *rows, until=400).told()], ["b", "t"])

    def test_of_one_touch_in_the_order_of_going_through(self):
        for order in (("a", "b"), ("b", "a")):
            found = alone(*[("press", label, 50) for label in order])
            made = reader(found, ("down", 0), until=50)
            self.hows(made, (0, order[0], ("won", 50)), (0, order[1], ("out", 50, "to", order[0], 0)))
            found = alone(*[("press", label, 50) for label in order], beside=[("a", "b")])
            self.assertEqual([row[1] for row in reader(found, ("down", 0), until=50).told()], list(order))

    def test_a_machine_by_its_last_word_also_where_waits_ended_since(self):
        # m's waits end at 30, 60 and 100, all of them counted from its down; the press comes down at 40.
        machine = (state(30, wait=1), state(30, wait=2), state(40, wait="claim"))
        found = scene(part("all", parts=[part("a", ("made", "m", machine), box=LEFT),
                                        part("b", ("press", "b", 60), box=RIGHT)]))
        rows = [("down", 0, 10), ("down", 40, 110, 0, 1)]
        self.assertEqual([row[1] for row in reader(found, *rows, until=100).told()], ["m", "b"])
        # By a word behind the press's down it is the press's turn first.
        machine = (state(out=1), state(20, wait=2), state(30, wait="claim"))
        found = scene(part("all", parts=[part("a", ("made", "m", machine), box=LEFT),
                                        part("b", ("press", "b", 60), box=RIGHT)]))
        rows += [("move", 50, 10, 19)]
        self.assertEqual([row[1] for row in reader(found, *rows, until=100).told()], ["b", "m"])

    def test_a_move_within_the_slop_is_no_word(self):
        machine = (state(100, wait="claim"),)
        found = scene(part("all", parts=[part("a", ("made", "m", machine), box=LEFT),
                                        part("b", ("press", "b", 60), box=RIGHT)]))
        rows = [("down", 0, 10), ("down", 40, 110, 0, 1), ("move", 50, 12)]
        self.assertEqual([row[1] for row in reader(found, *rows, until=100).told()], ["m", "b"])

    def test_a_move_within_the_slop_ahead_of_a_waits_end_changes_nothing(self):
        machine = (state(50, wait=1), state(50, wait="claim"))
        found = scene(part("all", parts=[part("a", ("made", "m", machine), box=LEFT),
                                        part("b", ("press", "b", 60), box=RIGHT)]))
        rows = [("down", 0, 10), ("down", 40, 110, 0, 1), ("move", 45, 12)]
        self.assertEqual([row[1] for row in reader(found, *rows, until=100).told()], ["m", "b"])

    def test_with_all_that_comes_of_each_ahead_of_the_next_one(self):
        # Both end at 50; a's win puts b out, and frees c, which wins ahead of the press behind it.
        wishes = [("press", "a", 50), ("press", "b", 50), ("press", "c", 20), ("press", "e", 50)]
        found = alone(*wishes, beside=[("a", "c"), ("a", "e"), ("c", "e")], heeds=[("c", "b")])
        made = reader(found, ("down", 0), until=50)
        self.assertEqual([row[1] for row in made.told()], ["a", "c", "e"])
        self.hows(made, (0, "b", ("out", 50, "to", "a", 0)))

    def test_several_waits_of_a_machine_between_two_touches(self):
        machine = (state(up=1), state(10, wait=2, down="give"), state(1, wait=3), state(5, wait=4, down="claim"),
                   state(7, wait="claim"))
        found = alone(("made", "m", machine))
        for until, how in ((11, ("stands",)), (33, ("stands",)), (34, ("won", 34))):
            self.hows(reader(found, ("down", 0), ("up", 11), until=until), (0, "m", how))
        self.assertEqual(reader(found, ("down", 0), ("up", 11), until=10 ** 9).told(), [(34, "m", 0, "tapped", (0, 0))])
        made = reader(found, ("down", 0), ("up", 11), ("down", 22))
        self.hows(made, (0, "m", ("won", 22)))
        for moment, labels in ((20, ("out", 20, "made")), (21, ("stands",)), (27, ("stands",))):
            made = reader(found, ("down", 0), ("up", 11), ("down", moment))
            self.hows(made, (0, "m", labels))

    def test_a_wait_that_ended_otherwise_ends_no_more(self):
        machine = (state(50, wait="claim", out=1, up=2), state(80, wait="claim"), state(70, wait="give", down=0))
        found = alone(("made", "m", machine))
        self.reads(found, [("down", 0), ("move", 20, 19)], [(100, "m", 0, "began", ())], until=300)
        self.reads(found, [("down", 0), ("up", 20), ("down", 60)], [(110, "m", 0, "began", ())], until=300)
        # The very same moment, counted from a later touch.
        found = scene(part("all", parts=[part("a", ("made", "m", (state(50, wait="give", out=1), state(30, wait="claim"))),
                                              box=LEFT), part("b", ("press", "b", 40), box=RIGHT)]))
        rows = [("down", 0, 10), ("down", 10, 110, 0, 1), ("move", 20, 10, 19)]
        self.assertEqual([row[1] for row in reader(found, *rows, until=50).told()], ["b", "m"])

    def test_moments_far_apart(self):
        made = reader(alone(PRESS, ("tap", "d", 2)), ("down", 10 ** 9 - 400), ("up", 10 ** 9 - 300))
        made.go(10 ** 9)
        self.hows(made, (0, "d", ("out", 10 ** 9, "late")))
        made = reader(alone(PRESS), ("down", 0), ("up", 10 ** 9))
        self.assertEqual(made.told(), [(500, "p", 0, "began", ()), (10 ** 9, "p", 0, "ended", ())])
        made = reader(alone(PRESS), ("down", 10 ** 9 - 499), until=10 ** 9)
        self.hows(made, (0, "p", ("stands",)))


class AsMachines(Asked):
    """Taps and presses put as machines by the reader's gap [36]; drawn ones stand in test_whole.py."""

    def test_taps_and_presses_in_contests(self):
        wishes = (TAP, TWICE, THRICE, PRESS, PULL)
        heeds = (("t", "d"), ("d", "e"), ("t", "q"))
        rows = [("down", 0), ("up", 10), ("down", 30), ("up", 50), ("down", 400, 5), ("down", 410, 9, 9, 1),
                ("up", 420, 5), ("move", 500, 40, 9, 1), ("up", 900, 40, 9, 1), ("down", 1000), ("up", 2000, 3)]
        for gap in (100, 300, 400):
            made = tuple(("made", wish[1], machine_of(wish, gap=gap)) if wish != PULL else wish for wish in wishes)
            one = reader(alone(*wishes, heeds=heeds), *rows, until=9999, gap=gap)
            other = reader(alone(*made, heeds=heeds), *rows, until=9999, gap=gap)
            self.assertEqual(one.told(), other.told())
            self.assertGreater(len(one.told()), 3)


if __name__ == "__main__":
    unittest.main()
