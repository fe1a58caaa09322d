"""Pulls that move shelves [22], ways by their places [24], guesses [25] and shown places [26]."""

import unittest

from build import Asked, alone, papers, part, reader, scene, state, touch

PULL = ("pull", "q", "any")


class Steps(Asked):
    def test_shelf_and_over_behind_each_moved(self):
        inner = part("in", PULL, shelf=("across", -5, 5), parts=[])
        found = scene(part("out", shelf=("along", -10, 10), parts=[part("mid", shelf=("across", -20, 20), parts=[inner])]))
        rows = [("down", 0), ("move", 1, 19, 4), ("move", 2, 22, 4), ("move", 3, 40, 30), ("up", 200, 30, 30)]
        self.reads(found, rows, [
            (1, "q", 0, "began", ()), (1, "q", 0, "moved", (19, 4)), (1, "q", 0, "shelf", ("in", 5, 5)),
            (1, "q", 0, "shelf", ("mid", 14, 14)), (1, "q", 0, "shelf", ("out", 4, 4)),
            (2, "q", 0, "moved", (3, 0)), (2, "q", 0, "shelf", ("mid", 3, 17)),
            (3, "q", 0, "moved", (18, 26)), (3, "q", 0, "shelf", ("mid", 3, 20)), (3, "q", 0, "shelf", ("out", 6, 10)),
            (3, "q", 0, "over", (15, 20)),
            (200, "q", 0, "moved", (-10, 0)), (200, "q", 0, "shelf", ("in", -10, -5)), (200, "q", 0, "ended", ()),
        ])

    def test_over_by_one_way_has_0_for_the_other_one(self):
        found = alone(PULL, shelf=("across", -100, 100))
        self.reads(found, [("down", 0), ("move", 1, 19, 4), ("up", 2, 19, 0)], [
            (1, "q", 0, "began", ()), (1, "q", 0, "moved", (19, 4)), (1, "q", 0, "shelf", ("all", 19, 19)),
            (1, "q", 0, "over", (0, 4)), (2, "q", 0, "moved", (0, -4)), (2, "q", 0, "over", (0, -4)),
            (2, "q", 0, "ended", ()),
        ])

    def test_without_shelves_all_is_left_over(self):
        self.assertEqual(reader(alone(PULL), ("down", 0), ("move", 1, -19, 4)).told()[1:],
                         [(1, "q", 0, "moved", (-19, 4)), (1, "q", 0, "over", (-19, 4))])

    def test_a_shelf_without_room(self):
        found = alone(PULL, shelf=("across", 0, 0))
        self.assertEqual(reader(found, ("down", 0), ("move", 1, -19, 4)).told()[1:],
                         [(1, "q", 0, "moved", (-19, 4)), (1, "q", 0, "over", (-19, 4))])

    def test_a_pull_across_moves_no_shelf_along(self):
        inner = part("in", ("pull", "q", "across"), shelf=("along", -50, 50))
        found = scene(part("out", shelf=("across", -50, 50), parts=[inner]))
        made = reader(found, ("down", 0), ("move", 1, 19, 40))
        self.assertEqual([made.places(), made.told()[1:]],
                         [{"out": 19, "in": 0}, [(1, "q", 0, "moved", (19, 0)), (1, "q", 0, "shelf", ("out", 19, 19))]])

    def test_shelves_further_in_stay(self):
        inner = part("in", shelf=("across", -50, 50))
        found = scene(part("out", PULL, shelf=("across", -50, 50), parts=[inner]))
        self.assertEqual(reader(found, ("down", 0), ("move", 1, 19)).places(), {"out": 19, "in": 0})

    def test_presses_spreads_and_turns_move_none(self):
        for wish, rows in ((("press", "p", 5), [("down", 0), ("move", 9, 60)]),
                           (("spread", "s"), [("down", 0), ("down", 0, 40, 0, 1), ("move", 9, 90, 0, 1)]),
                           (("turn", "s"), [("down", 0), ("down", 0, 40, 0, 1), ("move", 9, 0, 90, 1)])):
            made = reader(alone(wish, shelf=("across", -50, 50)), *rows)
            self.assertEqual([made.places(), {row[3] for row in made.told()}], [{"all": 0}, {"began", "moved"}])

    def test_two_fingers_pull_one_shelf(self):
        found = alone(PULL, shelf=("across", -30, 30))
        made = reader(found, ("down", 0), ("down", 0, 9, 9, 1), ("move", 1, 20), ("move", 2, 29, 9, 1), ("move", 3, 0))
        self.assertEqual([row[2:] for row in made.told() if row[3] in ("shelf", "over")],
                         [(0, "shelf", ("all", 20, 20)), (1, "shelf", ("all", 10, 30)), (1, "over", (10, 0)),
                          (0, "shelf", ("all", -20, 10))])


class Ways(Asked):
    # At first the button is at 50 to 59; the shelf is pulled by touches off it.
    BUTTON = part("button", ("tap", "t", 1), box=(50, 50, 10, 10))
    FOUND = scene(part("list", PULL, shelf=("across", -40, 40), parts=[BUTTON]))

    def test_later_downs_go_by_the_places(self):
        made = reader(self.FOUND, ("down", 0), ("move", 1, 30), ("up", 2, 30))
        self.assertEqual(made.places(), {"list": 30})
        for x, labels in ((79, ["q"]), (80, ["t", "q"]), (89, ["t", "q"]), (90, ["q"]), (55, ["q"])):
            other = made.copy()
            other.put(touch("down", 3, x, 55))
            self.assertEqual(other.labels(1), labels, x)

    def test_a_strokes_own_way_stays(self):
        made = reader(self.FOUND, ("down", 0, 55, 55), ("down", 0, 0, 0, 1), ("move", 1, 30, 0, 1), ("up", 2, 55, 55))
        self.assertEqual([made.labels(0), made.told()[-1]], [["t", "q"], (2, "t", 0, "tapped", (55, 55))])

    def test_not_by_the_shown_ones(self):
        first = part("list", PULL, ("spread", "s"), shelf=("across", -40, 40), parts=[self.BUTTON])
        made = reader(scene(first, [], [("q", "s")]), ("down", 0), ("move", 1, 30))
        self.assertEqual([made.places(), made.shown()], [{"list": 0}, {"list": 30}])
        made.put(touch("down", 2, 55, 55, 1))
        self.assertEqual(made.labels(1), ["t", "q", "s"])

    def test_what_ends_at_the_downs_moment_moves_ahead_of_it(self):
        # The pull is kept until the machine gives up at 101; it wins by that, and moves the shelf.
        machine = (state(out=1), state(100, wait="give"))
        first = part("list", ("made", "m", machine), PULL, shelf=("across", -40, 40), parts=[self.BUTTON])
        found = scene(first, [], [("q", "m")])
        for moment, labels, place in ((100, ["m", "q"], 0), (101, ["t", "m", "q"], 30)):
            made = reader(found, ("down", 0), ("move", 1, 30), ("down", moment, 85, 55, 1))
            self.assertEqual([made.labels(1), made.places()], [labels, {"list": place}])

    def test_places_told_by_the_reader(self):
        self.assertEqual(reader(alone(PULL)).places(), {})
        inner = [part("a", shelf=("along", 0, 5)), part("b"), part("c", shelf=("across", -5, 0))]
        self.assertEqual(reader(scene(part("all", parts=inner))).places(), {"a": 0, "c": 0})


class Guesses(Asked):
    FOUND = alone(("tap", "t", 1), ("tap", "d", 2), ("pull", "q", "across"), ("spread", "s"),
                  heeds=[("t", "d"), ("q", "s")])

    def test_a_guess_at_each_claim_that_is_kept(self):
        self.reads(self.FOUND, [("down", 0), ("up", 10, 3, 4)],
                   [(10, "t", 0, "guess", ()), (310, "t", 0, "tapped", (3, 4))], until=400, guessing=True)

    def test_back_where_it_goes_out_by_to(self):
        self.reads(self.FOUND, [("down", 0), ("up", 10), ("down", 20), ("up", 30)], [
            (10, "t", 0, "guess", ()), (30, "t", 1, "guess", ()), (30, "d", 0, "tapped", (0, 0)),
            (30, "t", 0, "back", ()), (30, "t", 1, "back", ()),
        ], guessing=True)

    def test_back_where_it_goes_out_by_up_and_lost(self):
        found = alone(("pull", "q", "across"), ("spread", "s"), heeds=[("q", "s")])
        for word in ("up", "lost"):
            self.reads(found, [("down", 0), ("move", 5, 19), ("move", 7, 40), (word, 9, 50)],
                       [(5, "q", 0, "guess", ()), (9, "q", 0, "back", ())], guessing=True)

    def test_back_where_it_is_gone(self):
        found = scene(part("all", ("spread", "s"), parts=[part("in", ("pull", "q", "any"))]), [], [("q", "s")])
        made = reader(found, ("down", 0), ("move", 5, 19), guessing=True)
        self.assertEqual(made.out("in"), [(5, "q", 0, "back", ())])

    def test_who_wins_at_once_or_was_never_kept_is_no_guess(self):
        self.reads(alone(("tap", "t", 1), PULL), [("down", 0), ("up", 10)], [(10, "t", 0, "tapped", (0, 0))], guessing=True)
        self.reads(alone(("tap", "t", 1), PULL), [("down", 0), ("lost", 10)], [], guessing=True)

    def test_put_and_go_tell_them(self):
        made = reader(self.FOUND, ("down", 0), guessing=True)
        self.assertEqual(made.put(touch("up", 10)), [(10, "t", 0, "guess", ())])

    def test_it_reads_as_one_that_doesnt_guess(self):
        rows = [("down", 0), ("up", 10), ("down", 20), ("move", 30, 19), ("down", 40, 40, 0, 1), ("move", 45, 80, 0, 1),
                ("up", 50, 19), ("up", 60, 90, 0, 1), ("down", 70), ("up", 80)]
        one = reader(self.FOUND, *rows, until=999, guessing=True)
        other = reader(self.FOUND, *rows, until=999)
        self.assertGreater(len(one.told()), len(other.told()))
        self.assertEqual([row for row in one.told() if row[3] not in ("guess", "back")], other.told())
        self.assertEqual(papers(one), papers(other))


class Shown(Asked):
    def test_the_way_so_far_of_a_kept_pull(self):
        for guessing in (False, True):
            found = alone(PULL, ("spread", "s"), shelf=("across", -40, 40), heeds=[("q", "s")])
            made = reader(found, ("down", 0, 5, 5), ("move", 1, 20, 5), guessing=guessing)
            self.assertEqual(made.shown(), {"all": 0})
            for x, place in ((24, 19), (30, 25), (90, 40), (5, 0), (-10, -15), (-90, -40)):
                made.put(touch("move", 2, x, 90))
                self.assertEqual([made.shown(), made.places()], [{"all": place}, {"all": 0}])
            made.put(touch("up", 3, 90, 90))
            self.assertEqual([made.shown(), made.places()], [{"all": 0}] * 2)

    def test_by_its_way(self):
        inner = part("in", ("pull", "q", "across"), ("spread", "s"), shelf=("along", -40, 40))
        found = scene(part("all", shelf=("across", -40, 40), parts=[inner]), [], [("q", "s")])
        self.assertEqual(reader(found, ("down", 0), ("move", 1, 19, 30)).shown(), {"all": 19, "in": 0})

    def test_at_the_win_they_are_the_places(self):
        found = alone(PULL, ("pull", "r", "along"), shelf=("across", -40, 40), beside=[("q", "r")], heeds=[("q", "r")])
        made = reader(found, ("down", 0), ("move", 1, 25))
        self.assertEqual([made.shown(), made.places()], [{"all": 25}, {"all": 0}])
        made.put(touch("move", 2, 26, 19))
        self.assertEqual([made.how(0, "q"), made.shown(), made.places()], [("won", 2), {"all": 26}, {"all": 26}])

    def test_several_in_the_order_of_their_keeping(self):
        # The inner pull's step fills the inner shelf and then the outer one, so the order shows.
        inner = part("in", ("pull", "q", "any"), shelf=("across", -30, 30))
        found = scene(part("all", ("pull", "r", "any"), ("spread", "s"), shelf=("across", -30, 30), parts=[inner]),
                      [], [("q", "s"), ("r", "s")])
        # In each finger's contest there is a q and an r, and both are kept by its move.
        moves = [(0, 0, 40), (1, 190, -20)]
        for order in (moves, moves[::-1]):
            made = reader(found, ("down", 0), ("down", 0, 190, 190, 1))
            for finger, start, step in order:
                made.put((1, finger, "move", start + step, start))
            steps = [(name, step) for _, _, step in order for name in ("in", "all")]
            self.assertEqual(made.shown(), self.stepped(steps))
        self.assertNotEqual(self.stepped([("in", 40), ("in", -20)]), self.stepped([("in", -20), ("in", 40)]))

    def stepped(self, steps):
        """Places behind steps across of two shelves of 30, the inner one's left over going to the outer one."""
        places = {"in": 0, "all": 0}
        for name, step in steps:
            for part_name in ("in", "all")[0 if name == "in" else 1:]:
                goal = max(-30, min(30, places[part_name] + step))
                step -= goal - places[part_name]
                places[part_name] = goal
        return places

    def test_on_the_places_as_they_are(self):
        found = alone(PULL, ("spread", "s"), shelf=("across", -40, 40), heeds=[("q", "s")])
        made = reader(found, ("down", 0), ("move", 1, 30), ("down", 2, 9, 9, 1))
        self.assertEqual([made.how(0, "q"), made.how(1, "s")], [("kept", 1), ("stands",)])
        self.assertEqual(made.shown(), {"all": 30})
        # The pull, which stands ahead of what it heeds, gives up at the up.
        made.put(touch("up", 3, 31, 0))
        self.assertEqual([made.places(), made.shown()], [{"all": 0}, {"all": 0}])

    def test_asking_changes_nothing(self):
        found = alone(PULL, ("spread", "s"), shelf=("across", -40, 40), heeds=[("q", "s")])
        made = reader(found, ("down", 0), ("move", 1, 30))
        for _ in range(3):
            self.assertEqual([made.shown(), made.places()], [{"all": 30}, {"all": 0}])


if __name__ == "__main__":
    unittest.main()
