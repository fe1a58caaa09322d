"""Hopes: for what they wait [13], when and why they give up, when they claim [14], and made ones [35]."""

import copy
import itertools
import unittest

from strokeguess.hopes import Stroke, hope_for
from strokeguess.machines import is_machine, machine_of
from strokeguess.measures import is_beyond, is_spread, is_turned
from test_machines import by_machine

TAP = ("tap", "t", 1)
TWICE = ("tap", "t", 2)
THRICE = ("tap", "t", 3)
PRESS = ("press", "p", 500)
PULL = ("pull", "p", "any")
SPREAD = ("spread", "s")
TURN = ("turn", "t")


def made(*states):
    assert is_machine(states), states
    return ("made", "m", states)


def state(length=None, /, **steps):
    """A state of a machine, by its wait and the next of each word."""
    return (length, tuple(steps.items()))


class Lone:
    """A wish alone on every way, told touches and time: its hopes, and what each answered, and when."""

    def __init__(self, wish, slop=18, gap=300):
        self.wish, self.slop, self.gap = wish, slop, gap
        self.hopes, self.answers, self.strokes, self.going = [], [], 0, {}

    def note(self, moment, hope, answer):
        if answer is not None:
            self.answers.append((moment, self.hopes.index(hope), answer))

    def go(self, moment):
        """Pass time: waits end at their moments."""
        while True:
            due = [hope for hope in self.hopes if hope.ends() is not None and hope.ends() <= moment]
            if not due:
                return self
            hope = min(due, key=lambda one: one.ends())
            at = hope.ends()
            self.note(at, hope, hope.end())

    def put(self, touch):
        moment, finger, word, x, y = touch
        self.go(moment)
        if word == "down":
            stroke = Stroke(self.strokes, x, y)
            self.strokes += 1
            hope = hope_for("part", self.wish, self.hopes, self.slop, self.gap)
            if not any(hope is other for other in self.hopes):
                self.hopes.append(hope)
            hope.come(stroke)
            self.going[finger] = (stroke, hope)
        stroke, hope = self.going[finger]
        stroke.follow(touch)
        self.note(moment, hope, hope.ask(moment, word))

    def puts(self, *rows):
        """Put touches by word, moment, x, y, finger, the last three 0 where left out."""
        for word, moment, *more in rows:
            x, y, finger = (more + [0, 0, 0][len(more):])
            self.put((moment, finger, word, x, y))
        return self


class Asked(unittest.TestCase):
    def told(self, wish, rows, answers, until=None, **by):
        """Whether a lone wish answers so to these touches, and by time passing behind them."""
        with self.subTest(wish=wish, rows=rows, until=until):
            lone = Lone(wish, **by).puts(*rows)
            if until is not None:
                lone.go(until)
            self.assertEqual(lone.answers, answers)
            return lone

    def fates(self, lone, *wanted):
        self.assertEqual([hope.fate() for hope in lone.hopes], list(wanted))


class Strokes(unittest.TestCase):
    def test_the_finger_is_where_its_touches_are(self):
        stroke = Stroke(4, 5, 6)
        self.assertEqual([stroke.number, stroke.start, stroke.spot], [4, (5, 6), (5, 6)])
        for word, x, y in (("down", 5, 6), ("move", 7, 8), ("move", -9, 8), ("up", 10, 11)):
            stroke.follow((0, 0, word, x, y))
            self.assertEqual([stroke.start, stroke.spot], [(5, 6), (x, y)])

    def test_the_place_of_a_lost_one_counts_for_nothing(self):
        stroke = Stroke(0, 5, 6)
        stroke.follow((1, 0, "move", 7, 8))
        stroke.follow((2, 0, "lost", 900, 900))
        self.assertEqual(stroke.spot, (7, 8))


class Fates(Asked):
    def test_a_new_one_stands(self):
        for wish in (TAP, PRESS, PULL, SPREAD, TURN, made(state())):
            lone = self.told(wish, [("down", 5)], [])
            self.fates(lone, ("stands",))
            self.assertTrue(lone.hopes[0].stands())

    def test_one_that_claimed_stands_until_it_has_won(self):
        lone = self.told(TAP, [("down", 5), ("up", 9)], [(9, 0, "claim")])
        self.fates(lone, ("kept", 9))
        self.assertTrue(lone.hopes[0].stands())
        lone.hopes[0].win(12)
        self.fates(lone, ("won", 12))
        self.assertFalse(lone.hopes[0].stands())

    def test_one_that_gave_up_is_out(self):
        lone = self.told(TAP, [("down", 5), ("lost", 9)], [(9, 0, "lost")])
        self.fates(lone, ("out", 9, "lost"))
        self.assertFalse(lone.hopes[0].stands())

    def test_any_is_out_by_gone_and_by_to(self):
        for wish in (TAP, TWICE, PRESS, PULL, SPREAD, TURN, made(state(9, wait="claim")), made(state())):
            for why in (("gone",), ("to", "other", 3)):
                lone = Lone(wish).puts(("down", 5))
                hope = lone.hopes[0]
                hope.leave(7, *why)
                self.assertEqual(hope.fate(), ("out", 7, *why))
                self.assertEqual([hope.stands(), hope.waits(), hope.ends()], [False, False, None])
                # It answers to nothing any more, and is no older one that another finger comes to.
                lone.puts(("move", 8, 500, 500), ("down", 9, 0, 0, 1), ("up", 10, 500, 500))
                self.assertEqual(hope.fate(), ("out", 7, *why))
                self.assertEqual(len(lone.hopes), 2)

    def test_one_that_waits_for_a_finger_is_out_by_gone_and_by_to(self):
        for wish in (TWICE, made(state(up=1), state(300, down=0, wait="give"))):
            for why in (("gone",), ("to", "other", 3)):
                lone = Lone(wish).puts(("down", 5), ("up", 6))
                self.assertTrue(lone.hopes[0].waits())
                lone.hopes[0].leave(7, *why)
                self.assertFalse(lone.hopes[0].waits())
                lone.puts(("down", 8)).go(10 ** 6)
                self.assertEqual(len(lone.hopes), 2)
                self.assertEqual(lone.answers, [])

    def test_one_that_claimed_is_out_by_gone_and_by_to(self):
        for why in (("gone",), ("to", "other", 3)):
            lone = Lone(PRESS).puts(("down", 0)).go(600)
            lone.hopes[0].leave(700, *why)
            self.fates(lone, ("out", 700, *why))
            lone.puts(("up", 800))
            self.fates(lone, ("out", 700, *why))

    def test_one_that_has_won_neither_gives_up_nor_claims(self):
        for wish in (PRESS, PULL, SPREAD, made(state(500, wait="claim"))):
            for word in ("up", "lost"):
                lone = Lone(wish).puts(("down", 0))
                lone.hopes[0].win(1)
                lone.puts(("move", 2, 500, 500), (word, 3, 500, 500)).go(1000)
                self.assertEqual(lone.answers, [])
                self.fates(lone, ("won", 1))


class Waiting(Asked):
    def waits(self, wish, rows, wanted, until=None):
        lone = Lone(wish).puts(*rows)
        if until is not None:
            lone.go(until)
        self.assertIs(lone.hopes[0].waits(), wanted, (wish, rows))
        return lone

    def test_a_tap_that_has_some_not_all_of_its_taps_and_whose_finger_is_up(self):
        self.waits(TAP, [("down", 0)], False)
        self.waits(TAP, [("down", 0), ("up", 1)], False)
        self.waits(TWICE, [("down", 0)], False)
        self.waits(TWICE, [("down", 0), ("move", 1)], False)
        self.waits(TWICE, [("down", 0), ("up", 1)], True)
        self.waits(TWICE, [("down", 0), ("up", 1), ("down", 2)], False)
        self.waits(TWICE, [("down", 0), ("up", 1), ("down", 2), ("up", 3)], False)
        self.waits(THRICE, [("down", 0), ("up", 1), ("down", 2)], False)
        self.waits(THRICE, [("down", 0), ("up", 1), ("down", 2), ("up", 3)], True)
        self.waits(THRICE, [("down", 0), ("up", 1), ("down", 2), ("up", 3), ("down", 4), ("up", 5)], False)

    def test_a_tap_by_any_finger(self):
        lone = self.told(TWICE, [("down", 0, 0, 0, 4), ("up", 1, 0, 0, 4), ("down", 2, 900, 9, 7), ("up", 3, 900, 9, 7)],
                         [(3, 0, "claim")])
        self.assertEqual(len(lone.hopes), 1)

    def test_a_tap_that_is_out_waits_no_more(self):
        self.waits(TWICE, [("down", 0), ("up", 1, 19)], False)
        self.waits(TWICE, [("down", 0), ("up", 1)], True, until=300)
        self.waits(TWICE, [("down", 0), ("up", 1)], False, until=301)

    def test_a_tap_whose_finger_is_down_is_not_come_to_by_another_one(self):
        lone = self.told(TWICE, [("down", 0), ("down", 1, 0, 0, 1), ("up", 2), ("down", 3), ("up", 4)], [(4, 0, "claim")])
        self.assertEqual([[stroke.number for stroke in hope.strokes] for hope in lone.hopes], [[0, 2], [1]])

    def test_a_press_and_a_pull_wait_for_none(self):
        for wish in (PRESS, PULL, ("pull", "p", "across")):
            lone = self.waits(wish, [("down", 0)], False)
            lone.puts(("down", 1, 0, 0, 1))
            self.assertEqual(len(lone.hopes), 2)

    def test_a_spread_or_turn_that_has_one_finger_which_is_down(self):
        for wish in (SPREAD, TURN):
            self.waits(wish, [("down", 0)], True)
            self.waits(wish, [("down", 0), ("move", 5, 900, 900)], True)
            self.waits(wish, [("down", 0), ("up", 5)], False)
            self.waits(wish, [("down", 0), ("lost", 5)], False)
            lone = self.waits(wish, [("down", 0), ("down", 1, 40, 0, 1)], False)
            lone.puts(("down", 2, 80, 0, 2))
            self.assertEqual([[stroke.number for stroke in hope.strokes] for hope in lone.hopes], [[0, 1], [2]])
            lone.puts(("down", 3, 9, 9, 3), ("down", 4, 9, 9, 4))
            self.assertEqual([[stroke.number for stroke in hope.strokes] for hope in lone.hopes], [[0, 1], [2, 3], [4]])

    def test_the_eldest_one_by_its_first_stroke(self):
        # The second hope's finger is up ahead of the first one's; both wait, and the first one is come to.
        rows = [("down", 0, 0, 0, 0), ("down", 1, 0, 0, 1), ("up", 2, 0, 0, 1), ("up", 3, 0, 0, 0)]
        lone = self.told(TWICE, rows, [])
        self.assertEqual([hope.waits() for hope in lone.hopes], [True, True])
        eldest, younger = lone.hopes
        for older in ([eldest, younger], [younger, eldest]):
            self.assertIs(hope_for("part", TWICE, older, 18, 300), eldest)
        self.assertIs(hope_for("part", TWICE, [younger], 18, 300), younger)
        lone.puts(("down", 4), ("down", 5, 0, 0, 1))
        self.assertEqual([[stroke.number for stroke in hope.strokes] for hope in lone.hopes], [[0, 2], [1, 3]])

    def test_the_eldest_one_is_not_the_one_that_was_come_to_first_of_late(self):
        rows = [("down", 0, 0, 0, 0), ("down", 1, 0, 0, 1), ("up", 2, 0, 0, 1), ("down", 3, 0, 0, 2)]
        lone = self.told(THRICE, rows, [])
        self.assertEqual([[stroke.number for stroke in hope.strokes] for hope in lone.hopes], [[0], [1, 2]])
        lone.puts(("up", 4), ("down", 5), ("up", 6), ("up", 7, 0, 0, 2))
        self.assertEqual([[stroke.number for stroke in hope.strokes] for hope in lone.hopes], [[0, 3], [1, 2]])
        self.assertEqual([hope.waits() for hope in lone.hopes], [True, True])
        for older in (lone.hopes, lone.hopes[::-1]):
            self.assertIs(hope_for("part", THRICE, older, 18, 300), lone.hopes[0])

    def test_one_that_was_come_to_waits_no_more_also_ahead_of_being_asked(self):
        for wish in (TWICE, made(state(up=1), state(9, down=0, wait="give")), SPREAD):
            lone = Lone(wish).puts(("down", 0))
            if wish != SPREAD:
                lone.puts(("up", 1))
            hope = lone.hopes[0]
            self.assertTrue(hope.waits())
            hope.come(Stroke(1, 0, 0))
            self.assertFalse(hope.waits())
            self.assertIsNone(hope.ends())

    def test_else_a_new_one(self):
        lone = Lone(TWICE).puts(("down", 0), ("up", 1, 19), ("down", 2), ("up", 3)).go(400)
        for older in ([], lone.hopes):
            hope = hope_for("part", TWICE, older, 18, 300)
            self.assertFalse(any(hope is other for other in lone.hopes))
            self.assertEqual([hope.name, hope.wish, hope.label], ["part", TWICE, "t"])
            self.assertEqual([hope.fate(), hope.waits(), hope.ends()], [("stands",), False, None])

    def test_what_is_asked_for_stays(self):
        lone = Lone(TWICE).puts(("down", 0), ("up", 1))
        older = list(lone.hopes)
        hope_for("part", TWICE, older, 18, 300)
        self.assertEqual(older, lone.hopes)


class Taps(Asked):
    def test_it_claims_at_its_last_up(self):
        self.told(TAP, [("down", 10), ("up", 10)], [(10, 0, "claim")])
        self.told(TAP, [("down", 10), ("move", 20, 3, 3), ("up", 10 ** 6)], [(10 ** 6, 0, "claim")])
        self.told(TWICE, [("down", 10), ("up", 20)], [])
        self.told(TWICE, [("down", 10), ("up", 20), ("down", 30)], [])
        self.told(TWICE, [("down", 10), ("up", 20), ("down", 30), ("up", 40)], [(40, 0, "claim")])
        twice = [("down", 10), ("up", 20), ("down", 30), ("up", 40)]
        self.told(THRICE, twice, [])
        self.told(THRICE, twice + [("down", 50), ("up", 60)], [(60, 0, "claim")], until=10 ** 9)

    def test_moved_at_a_touch_beyond_the_slop(self):
        for x, y in ((18, 0), (0, -18), (-12, 13)):
            self.told(TAP, [("down", 0), ("move", 1, x, y), ("up", 2, x, y)], [(2, 0, "claim")])
        for x, y in ((19, 0), (0, -19), (-12, 14), (18, 1)):
            self.told(TAP, [("down", 0), ("move", 1, x, y), ("up", 2)], [(1, 0, "moved")])
            # Giving up goes ahead of claiming, at the very up.
            self.told(TAP, [("down", 0), ("move", 1, 2, 2), ("up", 2, x, y)], [(2, 0, "moved")])

    def test_moved_by_each_slop(self):
        for slop in (0, 1, 1000):
            self.told(TAP, [("down", 0), ("up", 1, slop)], [(1, 0, "claim")], slop=slop)
            self.told(TAP, [("down", 0), ("up", 1, slop + 1)], [(1, 0, "moved")], slop=slop)

    def test_moved_is_told_from_that_strokes_down(self):
        first = [("down", 0, 0, 0), ("up", 1, 18, 0)]
        self.told(TWICE, first + [("down", 2, 500, 500), ("move", 3, 518, 500), ("up", 4, 500, 518)], [(4, 0, "claim")])
        self.told(TWICE, first + [("down", 2, 500, 500), ("move", 3, 519, 500)], [(3, 0, "moved")])
        self.told(TWICE, first + [("down", 2, 18, 0), ("up", 3, 37, 0)], [(3, 0, "moved")])
        self.told(TWICE, [("down", 0), ("up", 1, 19)], [(1, 0, "moved")])

    def test_lost(self):
        self.told(TAP, [("down", 0), ("lost", 5)], [(5, 0, "lost")])
        self.told(TWICE, [("down", 0), ("up", 5), ("down", 6), ("lost", 7)], [(7, 0, "lost")])

    def test_the_place_of_a_lost_one_counts_for_nothing(self):
        self.told(TAP, [("down", 0), ("lost", 5, 900, 900)], [(5, 0, "lost")])

    def test_late_at_the_moment_of_its_last_up_and_the_gap(self):
        first = [("down", 0), ("up", 100)]
        for gap in (1, 2, 300, 10000):
            self.told(TWICE, first, [], until=100 + gap - 1, gap=gap)
            self.told(TWICE, first, [(100 + gap, 0, "late")], until=100 + gap, gap=gap)
            self.told(TWICE, first, [(100 + gap, 0, "late")], until=10 ** 9, gap=gap)
            in_time = first + [("down", 100 + gap - 1)]
            self.told(TWICE, in_time, [], until=10 ** 9, gap=gap)
            lone = self.told(TWICE, first + [("down", 100 + gap)], [(100 + gap, 0, "late")], gap=gap)
            self.assertEqual(len(lone.hopes), 2)

    def test_late_counts_from_each_up(self):
        rows = [("down", 0), ("up", 10), ("down", 309), ("up", 5000), ("down", 5299)]
        self.told(THRICE, rows, [], until=10 ** 9)
        self.told(THRICE, rows + [("up", 9000)], [(9000, 0, "claim")], until=10 ** 9)
        self.told(THRICE, rows[:-1], [(5300, 0, "late")], until=10 ** 9)

    def test_it_is_not_late_where_its_finger_is_down_or_it_has_claimed(self):
        self.told(TAP, [("down", 0)], [], until=10 ** 9)
        self.told(TAP, [("down", 0), ("up", 1)], [(1, 0, "claim")], until=10 ** 9)

    def test_when_its_wait_ends(self):
        lone = Lone(TWICE, gap=50).puts(("down", 5))
        self.assertIsNone(lone.hopes[0].ends())
        lone.puts(("up", 7))
        self.assertEqual(lone.hopes[0].ends(), 57)
        lone.puts(("down", 9))
        self.assertIsNone(lone.hopes[0].ends())
        lone.puts(("up", 11))
        self.assertIsNone(lone.hopes[0].ends())


class Presses(Asked):
    def test_it_claims_at_the_moment_of_its_down_and_its_wait(self):
        for wait in (1, 2, 500, 10000):
            press = ("press", "p", wait)
            self.told(press, [("down", 7)], [], until=7 + wait - 1)
            self.told(press, [("down", 7)], [(7 + wait, 0, "claim")], until=7 + wait)
            lone = self.told(press, [("down", 7)], [(7 + wait, 0, "claim")], until=10 ** 9)
            self.fates(lone, ("kept", 7 + wait))
            self.assertIsNone(lone.hopes[0].ends())

    def test_up(self):
        self.told(PRESS, [("down", 7), ("up", 7)], [(7, 0, "up")])
        self.told(PRESS, [("down", 7), ("up", 506, 18)], [(506, 0, "up")], until=10 ** 9)

    def test_lost(self):
        self.told(PRESS, [("down", 7), ("lost", 506, 900, 900)], [(506, 0, "lost")], until=10 ** 9)

    def test_moved(self):
        self.told(PRESS, [("down", 0), ("move", 1, 18, 0), ("move", 2, 0, -18)], [(500, 0, "claim")], until=500)
        self.told(PRESS, [("down", 0), ("move", 1, 19, 0)], [(1, 0, "moved")], until=500)
        self.told(PRESS, [("down", 0), ("move", 499, 13, 13)], [(499, 0, "moved")], until=500)
        # Of several whys the first one: at an up beyond the slop it has moved.
        self.told(PRESS, [("down", 0), ("up", 1, 19, 0)], [(1, 0, "moved")])
        self.told(PRESS, [("down", 0), ("up", 1, 18, 0)], [(1, 0, "up")])

    def test_what_ends_at_a_touchs_moment_ends_ahead_of_it(self):
        self.told(PRESS, [("down", 0), ("move", 500, 900)], [(500, 0, "claim")])
        self.told(PRESS, [("down", 0), ("up", 500)], [(500, 0, "claim"), (500, 0, "up")])

    def test_behind_its_claim_it_gives_up_by_up_and_lost_alone(self):
        claim = (500, 0, "claim")
        self.told(PRESS, [("down", 0), ("move", 600, 900, 900)], [claim], until=10 ** 9)
        lone = self.told(PRESS, [("down", 0), ("up", 600, 900, 900)], [claim, (600, 0, "up")])
        self.fates(lone, ("out", 600, "up"))
        lone = self.told(PRESS, [("down", 0), ("lost", 600)], [claim, (600, 0, "lost")])
        self.fates(lone, ("out", 600, "lost"))


class Pulls(Asked):
    def test_it_claims_at_a_move_beyond_the_slop_by_its_way(self):
        for way in ("any", "across", "along"):
            for x, y in itertools.product((-19, -18, -13, 0, 13, 14, 18, 19, 20000), repeat=2):
                answers = [(2, 0, "claim")] if is_beyond(way, x, y, 18) else []
                self.told(("pull", "p", way), [("down", 1, 5, -5), ("move", 2, x + 5, y - 5)], answers)

    def test_across_and_along(self):
        for way, x, y in (("across", 18, 900), ("along", 900, 18)):
            self.told(("pull", "p", way), [("down", 0), ("move", 1, x, y), ("move", 2, -x, -y)], [])
        self.told(("pull", "p", "across"), [("down", 0), ("move", 1, -19, 0)], [(1, 0, "claim")])
        self.told(("pull", "p", "along"), [("down", 0), ("move", 1, 0, -19)], [(1, 0, "claim")])

    def test_by_each_slop(self):
        for slop in (0, 1, 1000):
            self.told(PULL, [("down", 0), ("move", 1, 0, slop)], [], slop=slop)
            self.told(PULL, [("down", 0), ("move", 1, 0, slop + 1)], [(1, 0, "claim")], slop=slop)

    def test_up_and_lost(self):
        for word in ("up", "lost"):
            self.told(PULL, [("down", 0), (word, 0)], [(0, 0, word)])
            self.told(PULL, [("down", 0), ("move", 1, 18), (word, 2, 18)], [(2, 0, word)])
            # At an up beyond the slop it claims nothing.
            self.told(PULL, [("down", 0), (word, 2, 900)], [(2, 0, word)])

    def test_it_claims_but_once_and_a_kept_one_gives_up_at_the_up(self):
        rows = [("down", 0), ("move", 1, 19), ("move", 2, 0), ("move", 3, 90)]
        self.fates(self.told(PULL, rows, [(1, 0, "claim")]), ("kept", 1))
        for word in ("up", "lost"):
            lone = self.told(PULL, rows + [(word, 4, 0)], [(1, 0, "claim"), (4, 0, word)])
            self.fates(lone, ("out", 4, word))

    def test_no_wait_ends(self):
        self.told(PULL, [("down", 0)], [], until=10 ** 9)


class Pairs(Asked):
    """Spreads and turns: finger 0 at (100, 100), finger 1 forty to its right, where nothing else is told."""

    DOWNS = [("down", 0, 100, 100), ("down", 1, 140, 100, 1)]

    def test_a_spread_claims_at_a_move_of_either_finger(self):
        for x, wanted in ((150, False), (151, True), (132, False), (131, True), (40, True), (60, False), (68, False)):
            answers = [(2, 0, "claim")] if wanted else []
            self.told(SPREAD, self.DOWNS + [("move", 2, x, 100, 1)], answers)
            self.told(SPREAD, self.DOWNS + [("move", 2, 240 - x, 100)], answers)

    def test_a_turn_claims_at_a_move_of_either_finger(self):
        for x, y, wanted in ((140, 140, False), (140, 141, True), (140, 60, False), (140, 59, True), (100, 101, True),
                             (101, 100, False), (99, 100, True), (100, 100, False)):
            answers = [(2, 0, "claim")] if wanted else []
            self.told(TURN, self.DOWNS + [("move", 2, x, y, 1)], answers)
            self.told(TURN, self.DOWNS + [("move", 2, 240 - x, 200 - y)], answers)

    def test_the_first_difference_is_from_where_the_first_finger_is_then(self):
        rows = [("down", 0, 0, 0), ("move", 1, 100, 100), ("down", 2, 140, 100, 1)]
        self.told(SPREAD, rows + [("move", 3, 150, 100, 1)], [])
        self.told(SPREAD, rows + [("move", 3, 151, 100, 1)], [(3, 0, "claim")])
        self.told(TURN, rows + [("move", 3, 140, 140, 1)], [])
        self.told(TURN, rows + [("move", 3, 140, 141, 1)], [(3, 0, "claim")])

    def test_both_move(self):
        rows = self.DOWNS + [("move", 2, 95, 100), ("move", 3, 145, 100, 1)]
        self.told(SPREAD, rows, [])
        self.told(SPREAD, rows + [("move", 4, 94, 100)], [(4, 0, "claim")])
        self.told(SPREAD, self.DOWNS + [("move", 2, 160, 100, 0), ("move", 3, 200, 100, 1)], [(2, 0, "claim")])
        # Neither of the fingers is turned by itself; both together are.
        rows = self.DOWNS + [("move", 2, 100, 80), ("move", 3, 140, 120, 1)]
        self.told(TURN, rows, [])
        self.told(TURN, rows + [("move", 4, 140, 121, 1)], [(4, 0, "claim")])

    def test_against_the_measures(self):
        for x, y in itertools.product((-50, -41, -40, -33, -32, -31, 0, 31, 32, 33, 40, 41, 50, 51), repeat=2):
            rows = self.DOWNS + [("move", 2, 100 + x, 100 + y, 1)]
            self.told(SPREAD, rows, [(2, 0, "claim")] if is_spread((40, 0), (x, y)) else [])
            self.told(TURN, rows, [(2, 0, "claim")] if is_turned((40, 0), (x, y)) else [])

    def test_two_fingers_at_one_place(self):
        rows = [("down", 0), ("down", 0, 0, 0, 1)]
        self.told(SPREAD, rows + [("move", 1, 0, 0, 1)], [])
        self.told(SPREAD, rows + [("move", 1, 1, 0, 1)], [(1, 0, "claim")])
        self.told(TURN, rows + [("move", 1, 900, 900, 1), ("move", 2, -900, 0)], [])

    def test_one_finger_alone_claims_nothing(self):
        for wish in (SPREAD, TURN):
            self.told(wish, [("down", 0), ("move", 1, 900, 900), ("move", 2, -900, 0)], [], until=10 ** 9)

    def test_a_down_and_an_up_claim_nothing(self):
        self.told(SPREAD, [("down", 0), ("down", 1, 4000, 0, 1)], [])
        self.told(SPREAD, self.DOWNS + [("up", 2, 900, 100, 1)], [(2, 0, "up")])
        self.told(TURN, self.DOWNS + [("up", 2, 100, 900, 1)], [(2, 0, "up")])

    def test_up_and_lost_of_either_finger(self):
        for wish, word in itertools.product((SPREAD, TURN), ("up", "lost")):
            self.told(wish, [("down", 0), (word, 1)], [(1, 0, word)])
            for finger in (0, 1):
                lone = self.told(wish, self.DOWNS + [(word, 2, 100, 100, finger)], [(2, 0, word)])
                # The other finger's touches come to nothing any more.
                lone.puts(("move", 3, 900, 500, 1 - finger), ("up", 4, 900, 500, 1 - finger))
                self.fates(lone, ("out", 2, word))

    def test_it_claims_but_once_and_a_kept_one_gives_up(self):
        for wish, place in ((SPREAD, (900, 100)), (TURN, (100, 140))):
            rows = self.DOWNS + [("move", 2, *place, 1), ("move", 3, 140, 100, 1), ("move", 4, *place, 1)]
            self.fates(self.told(wish, rows, [(2, 0, "claim")]), ("kept", 2))
            for word, finger in itertools.product(("up", "lost"), (0, 1)):
                lone = self.told(wish, rows + [(word, 5, 0, 0, finger)], [(2, 0, "claim"), (5, 0, word)])
                self.fates(lone, ("out", 5, word))


class MadeOnes(Asked):
    def test_it_begins_in_state_0_at_its_down(self):
        wish = made(state(10, wait="claim"), state(5, wait="give"))
        self.told(wish, [("down", 100)], [], until=109)
        self.told(wish, [("down", 100)], [(110, 0, "claim")], until=110)

    def test_out_at_a_move_beyond_the_slop(self):
        wish = made(state(out="claim"))
        for x, y in ((18, 0), (0, -18), (12, 13)):
            self.told(wish, [("down", 0), ("move", 1, x, y)], [])
        for x, y in ((19, 0), (0, -19), (13, 13)):
            self.told(wish, [("down", 0), ("move", 1, x, y)], [(1, 0, "claim")])
        for slop in (0, 1, 1000):
            self.told(wish, [("down", 0), ("move", 1, 0, slop)], [], slop=slop)
            self.told(wish, [("down", 0), ("move", 1, 0, slop + 1)], [(1, 0, "claim")], slop=slop)

    def test_out_from_that_strokes_down(self):
        wish = made(state(up=1), state(down=2), state(out="claim", up="give"))
        rows = [("down", 0), ("up", 1), ("down", 2, 500, 0)]
        self.told(wish, rows + [("move", 3, 518, 0)], [])
        self.told(wish, rows + [("move", 3, 519, 0)], [(3, 0, "claim")])

    def test_each_move_beyond_is_a_word_again(self):
        wish = made(state(out=1, up="give"), state(out=2, up="give"), state(out="claim"))
        beyond = [("move", 1, 19), ("move", 2, 20), ("move", 3, 21)]
        self.told(wish, [("down", 0)] + beyond[:2], [])
        self.told(wish, [("down", 0)] + beyond, [(3, 0, "claim")])
        self.told(wish, [("down", 0), beyond[0], ("move", 2, 18), ("move", 2, 0), beyond[1]], [])
        self.told(wish, [("down", 0), beyond[0], ("move", 2, 18), beyond[1], ("move", 3, 19)], [(3, 0, "claim")])

    def test_a_move_within_the_slop_is_no_word(self):
        self.told(made(state()), [("down", 0), ("move", 1, 18), ("move", 2, 0, 18)], [], until=10 ** 9)
        # Nor does the wait begin anew by it.
        self.told(made(state(10, wait="claim", out=0)), [("down", 0), ("move", 9, 18)], [(10, 0, "claim")], until=10)
        self.told(made(state(10, wait="claim", out=0)), [("down", 0), ("move", 9, 19)], [], until=18)
        self.told(made(state(10, wait="claim", out=0)), [("down", 0), ("move", 9, 19)], [(19, 0, "claim")], until=19)

    def test_up_not_beyond_the_slop(self):
        wish = made(state(up="claim"))
        self.told(wish, [("down", 0), ("up", 1, 18)], [(1, 0, "claim")])
        # Giving up goes ahead of claiming, at the very up.
        self.told(wish, [("down", 0), ("up", 1, 19)], [(1, 0, "made")])
        self.told(made(state(up="claim", out="claim")), [("down", 0), ("up", 1, 19)], [(1, 0, "made")])

    def test_an_up_at_the_place_behind_an_out(self):
        wish = made(state(out=1), state(up="claim"))
        self.told(wish, [("down", 0), ("move", 1, 19), ("up", 2, 0)], [(2, 0, "claim")])
        self.told(wish, [("down", 0), ("move", 1, 19), ("up", 2, 19)], [(2, 0, "made")])

    def test_out_and_up_without_a_step_give_up(self):
        self.told(made(state(up="claim")), [("down", 0), ("move", 1, 19)], [(1, 0, "made")])
        self.told(made(state(out="claim")), [("down", 0), ("up", 1)], [(1, 0, "made")])
        self.told(made(state(9, wait="claim")), [("down", 0), ("up", 1)], [(1, 0, "made")], until=10 ** 9)
        self.told(made(state(9, wait="claim")), [("down", 0), ("move", 8, 19)], [(8, 0, "made")], until=10 ** 9)

    def test_give_is_made(self):
        self.told(made(state(up="give")), [("down", 0), ("up", 1)], [(1, 0, "made")])
        self.told(made(state(out="give")), [("down", 0), ("move", 1, 19)], [(1, 0, "made")])
        self.told(made(state(9, wait="give")), [("down", 0)], [], until=8)
        self.told(made(state(9, wait="give")), [("down", 0)], [(9, 0, "made")], until=9)
        self.told(made(state(up=1), state(down="give")), [("down", 0), ("up", 1), ("down", 2)], [(2, 0, "made")])

    def test_lost(self):
        self.told(made(state(out="claim", up="claim")), [("down", 0), ("lost", 1, 900, 900)], [(1, 0, "lost")])
        self.told(made(state(up=1), state(down=0)), [("down", 0), ("up", 1), ("down", 2), ("lost", 3)], [(3, 0, "lost")])

    def test_waits_are_counted_from_the_coming_into_the_state(self):
        wish = made(state(up=1), state(5, wait=2, down="give"), state(7, wait="claim", down="give"))
        self.told(wish, [("down", 0), ("up", 100)], [], until=111)
        self.told(wish, [("down", 0), ("up", 100)], [(112, 0, "claim")], until=112)
        # Told late, it claims at the same moment.
        self.told(wish, [("down", 0), ("up", 100)], [(112, 0, "claim")], until=10 ** 9)
        rows = [("down", 0), ("up", 100)]
        self.told(wish, rows + [("down", 111)], [(111, 0, "made")])
        lone = self.told(wish, rows + [("down", 112)], [(112, 0, "claim")])
        self.assertEqual(len(lone.hopes), 2)

    def test_the_same_state_again_begins_its_wait_anew(self):
        wish = made(state(10, wait="claim", out=0, up=0, down=0))
        self.told(wish, [("down", 0), ("move", 9, 19), ("move", 18, 19)], [], until=27)
        self.told(wish, [("down", 0), ("move", 9, 19), ("move", 18, 19)], [(28, 0, "claim")], until=28)
        self.told(wish, [("down", 0), ("up", 9), ("down", 18)], [(28, 0, "claim")], until=28)

    def test_for_a_finger_it_waits_where_it_is_up_and_its_state_steps_by_down(self):
        steps = {"out": 0, "up": 1}
        for wish, wanted in (
            (made(state(**steps), state(down=0)), True),
            (made(state(**steps), state(9, wait="give", down="claim")), True),
            (made(state(**steps), state(9, wait="give")), False),
            (made(state(**steps), state(9, wait=2), state(down=0)), False),
        ):
            lone = Lone(wish).puts(("down", 0))
            self.assertFalse(lone.hopes[0].waits())
            lone.puts(("move", 1, 19), ("up", 2))
            self.assertIs(lone.hopes[0].waits(), wanted)
            lone.puts(("down", 3))
            self.assertEqual(len(lone.hopes), 1 if wanted else 2)
            self.assertFalse(lone.hopes[0].waits())

    def test_it_waits_by_the_state_it_has_come_to_by_waiting(self):
        wish = made(state(up=1), state(9, wait=2, out=0), state(9, wait=3, down="claim"), state(9, wait="give"))
        lone = Lone(wish).puts(("down", 0), ("up", 100))
        waits = [lone.go(moment).hopes[0].waits() for moment in (100, 108, 109, 117, 118)]
        self.assertEqual(waits, [False, False, True, True, False])
        self.assertEqual(lone.answers, [])
        self.assertEqual(lone.go(127).answers, [(127, 0, "made")])

    def test_a_state_of_the_finger_down_waits_for_none(self):
        lone = Lone(made(state(down="claim", up=0))).puts(("down", 0))
        self.assertFalse(lone.hopes[0].waits())
        lone.puts(("down", 1, 0, 0, 1))
        self.assertEqual(len(lone.hopes), 2)
        lone.puts(("up", 2))
        self.assertTrue(lone.hopes[0].waits())
        lone.puts(("down", 3))
        self.assertEqual(lone.answers, [(3, 0, "claim")])

    def test_its_finger_up_in_a_state_without_down_and_wait_it_gives_up(self):
        dead = state(out="claim", up="claim")
        self.told(made(state(up=1), dead), [("down", 0), ("up", 1)], [(1, 0, "made")])
        self.told(made(state(up=0)), [("down", 0), ("up", 1)], [(1, 0, "made")])
        self.told(made(state(up=1), state(down=2), dead), [("down", 0), ("up", 1), ("down", 2)], [])
        # Also where it comes there by a wait; and where its finger is down it goes on.
        rows = [("down", 0), ("up", 1)]
        self.told(made(state(up=1), state(9, wait=2, down=0), dead), rows, [], until=9)
        self.told(made(state(up=1), state(9, wait=2, down=0), dead), rows, [(10, 0, "made")], until=10)
        self.told(made(state(9, wait=1), dead), [("down", 0)], [], until=10 ** 9)
        self.told(made(state(out=1), dead), [("down", 0), ("move", 1, 19), ("up", 2)], [(2, 0, "claim")])

    def test_claims_by_each_word(self):
        self.told(made(state(up=1), state(down="claim")), [("down", 0), ("up", 1), ("down", 2)], [(2, 0, "claim")])
        self.told(made(state(up=1), state(9, wait="claim")), [("down", 0), ("up", 1)], [(10, 0, "claim")], until=10)

    def test_behind_its_claim_it_takes_no_steps(self):
        wish = made(state(5, wait="claim", up=1, out=1), state(5, down=0, wait="give"))
        claim = (5, 0, "claim")
        lone = self.told(wish, [("down", 0), ("move", 6, 900), ("move", 7, 0)], [claim], until=10 ** 9)
        self.fates(lone, ("kept", 5))
        self.assertEqual([lone.hopes[0].waits(), lone.hopes[0].ends()], [False, None])
        for word in ("up", "lost"):
            for x in (0, 900):
                lone = self.told(wish, [("down", 0), (word, 6, x)], [claim, (6, 0, word)], until=10 ** 9)
                self.fates(lone, ("out", 6, word))

    def test_a_claim_whose_finger_is_up_stays(self):
        wish = made(state(up="claim", out="give"), state(down="claim"))
        lone = self.told(wish, [("down", 0), ("up", 1), ("down", 2), ("up", 3)], [(1, 0, "claim"), (3, 1, "claim")],
                         until=10 ** 9)
        self.fates(lone, ("kept", 1), ("kept", 3))
        self.assertTrue(lone.hopes[0].is_up)
        lone = Lone(made(state(out="claim"))).puts(("down", 0), ("move", 1, 19))
        self.assertFalse(lone.hopes[0].is_up)

    def test_several_machines_of_one_label_go_each_by_itself(self):
        wish = made(state(up=1), state(50, down=2, wait="give"), state(up="claim"))
        lone = Lone(wish).puts(("down", 0), ("down", 10, 0, 0, 1), ("up", 20, 0, 0, 1), ("up", 30), ("down", 40, 0, 0, 1))
        lone.go(10 ** 9)
        self.assertEqual(lone.answers, [(70, 1, "made")])
        self.assertEqual(lone.hopes[0].fate(), ("stands",))
        lone.puts(("up", 10 ** 9, 0, 0, 1))
        self.assertEqual(lone.answers[-1], (10 ** 9, 0, "claim"))


class Machines(Asked):
    """Hopes of made wishes in all histories, against a model, and against the taps and presses they are made of."""

    MACHINES = (
        machine_of(("tap", "t", 1)), machine_of(("tap", "t", 2), gap=2), machine_of(("press", "p", 2)),
        (state(2, wait=1, out=0, up=1, down=0), state(3, wait="claim", up="give", down=1)),
        (state(out=1, up=1), state(1, wait=2, up=0, out=2), state(2, wait="give", down=0, up="claim")),
        (state(1, wait=1, out="claim"), state(up=2, out=0), state(down=1)),
        (state(up=0, out=0),), (state(up=0, down=0, out=0),), (state(4, wait="claim", up=0),),
    )

    def told_by(self, wish, history, gap=300):
        """What becomes of the first hope, word by word, as by_machine tells it."""
        lone, told, now, down = Lone(wish, gap=gap), [], 0, True
        lone.put((0, 0, "down", 0, 0))
        for word in history:
            hope = lone.hopes[0]
            if isinstance(word, int):
                now += word
                lone.go(now)
            elif (word == "down") == down or word == "down" and not hope.waits():
                # A word that can't be told here is passed by; by_machine tells nothing where the finger is up.
                if word != "down":
                    continue
            else:
                lone.put((now, 0, "move" if word == "out" else word, 19 if word == "out" else 0, 0))
                down = word != "up"
            if lone.answers:
                moment, _, answer = lone.answers[0]
                return told + [(moment, "claim" if answer == "claim" else "give")]
            told.append(lone.hopes[0].waits())
        return told

    def test_each_history_against_the_model(self):
        for machine in self.MACHINES:
            wish = made(*machine)
            for history in itertools.product(("out", "up", "down", 1, 2), repeat=6):
                self.assertEqual(self.told_by(wish, history), by_machine(machine, history), (machine, history))

    def test_taps_and_presses_as_made_wishes(self):
        for wish in (TAP, TWICE, THRICE, ("press", "p", 3), ("press", "p", 1)):
            other = ("made", wish[1], machine_of(wish, gap=3))
            for history in itertools.product(("out", "up", "down", 1, 2), repeat=6):
                self.assertEqual(self.told_by(wish, history, gap=3), self.told_by(other, history, gap=3), (wish, history))

    def test_the_machine_stays(self):
        for machine in self.MACHINES:
            before = copy.deepcopy(machine)
            self.told_by(("made", "m", machine), ("up", 1, "down", "out", 2, "up", 2))
            self.assertEqual(machine, before)


if __name__ == "__main__":
    unittest.main()
