"""Touches: what is one, which rows are right [8], and the strokes of a row [9]."""

import copy
import itertools
import unittest

from strokeguess.touches import first_wrong, is_touch, strokes_of
from things import JUNK, SIXTY, mixed, nested, spoiled

NO_NUMBERS = (True, False, None, "1", "", "down", (), (1,), [1], [], SIXTY, -SIXTY)


def touch(moment=0, finger=0, word="down", x=0, y=0):
    return (moment, finger, word, x, y)


def row(*touches):
    """Touches by moment, finger and word, all at the scene's first place."""
    return [(moment, finger, word, 0, 0) for moment, finger, word in touches]


class IsTouch(unittest.TestCase):
    def right(self, *things):
        for thing in things:
            with self.subTest(thing=thing):
                self.assertIs(is_touch(thing), True)

    def wrong(self, *things):
        for thing in things:
            with self.subTest(thing=thing):
                self.assertIs(is_touch(thing), False)

    def test_moments_to_their_bounds(self):
        self.right(*[touch(moment=moment) for moment in (0, 1, 2, 5000, 10 ** 9 - 1, 10 ** 9)])
        self.wrong(*[touch(moment=moment) for moment in (-1, -2, 10 ** 9 + 1, *NO_NUMBERS)])

    def test_fingers_to_their_bounds(self):
        self.right(*[touch(finger=finger) for finger in range(10)])
        self.wrong(*[touch(finger=finger) for finger in (-1, -2, 10, 11, *NO_NUMBERS)])

    def test_words(self):
        self.right(*[touch(word=word) for word in ("down", "move", "up", "lost")])
        self.wrong(*[touch(word=word) for word in (
            "", "Down", "DOWN", "down ", " down", "downs", "dow", "down\n", "moved", "out", "wait", "tap", "lost.",
            None, True, False, 0, 1, (), [], ("down",), ["down"], ("down", "up"), SIXTY, nested(list, 100), mixed(100),
        )])

    def test_places_to_their_bounds(self):
        for number in (-10000, -9999, -1, 0, 1, 9999, 10000):
            self.right(touch(x=number), touch(y=number), touch(x=number, y=-number))
        for number in (-10001, 10001, *NO_NUMBERS):
            self.wrong(touch(x=number), touch(y=number))

    def test_all_at_their_bounds(self):
        self.right((0, 0, "down", -10000, -10000), (10 ** 9, 9, "lost", 10000, 10000))

    def test_a_truth_is_no_number(self):
        for truth in (True, False):
            self.wrong((truth, 1, "up", 1, 1), (1, truth, "up", 1, 1), (1, 1, "up", truth, 1), (1, 1, "up", 1, truth))

    def test_five_things(self):
        self.right((1, 2, "move", 3, 4))
        self.wrong((), (1,), (1, 2), (1, 2, "move"), (1, 2, "move", 3), (1, 2, "move", 3, 4, 5), (1, 2, 3, "move", 4),
                   (2, "move", 3, 4), ("move", 1, 2, 3, 4), ((1, 2, "move", 3, 4),))

    def test_a_list_in_the_tuples_place(self):
        self.wrong([1, 2, "move", 3, 4], ([1, 2, "move", 3, 4],), [], [(1, 2, "move", 3, 4)])

    def test_anything_is_told_a_truth(self):
        self.wrong(*JUNK)
        self.wrong(*[kind([deep] * 5) for kind in (tuple, list) for deep in (nested(list, 99), nested(tuple, 99))])
        self.wrong((mixed(99), 0, "down", 0, 0), (0, mixed(99), "down", 0, 0), (0, 0, mixed(99), 0, 0),
                   (0, 0, "down", mixed(99), 0), (0, 0, "down", 0, mixed(99)))
        for thing in spoiled((1000, 3, "move", 20, -20)):
            told = is_touch(thing)
            self.assertIsInstance(told, bool)
            self.assertIs(told, by_rule(thing), thing)


def by_rule(thing):
    """The same by kinds and ranges."""
    if type(thing) is not tuple or [type(inner) for inner in thing] != [int, int, str, int, int]:
        return False
    moment, finger, word, x, y = thing
    near = range(-10000, 10001)
    return moment in range(10 ** 9 + 1) and finger in range(10) and word in ("down", "move", "up", "lost") \
        and x in near and y in near


class FirstWrong(unittest.TestCase):
    def right(self, *touches):
        self.assertIsNone(first_wrong(row(*touches)))

    def wrong(self, number, *touches):
        told = first_wrong(row(*touches))
        self.assertEqual(told, number)
        self.assertIs(type(told), int)

    def test_no_touch_at_all(self):
        self.assertIsNone(first_wrong([]))

    def test_one_stroke(self):
        self.right((0, 0, "down"))
        self.right((5, 0, "down"), (6, 0, "move"), (7, 0, "move"), (8, 0, "up"))
        self.right((10 ** 9, 9, "down"), (10 ** 9, 9, "lost"))

    def test_moments_that_stay(self):
        self.right((7, 0, "down"), (7, 0, "move"), (7, 0, "up"), (7, 0, "down"), (7, 0, "lost"))

    def test_a_moment_that_goes_back(self):
        self.wrong(1, (7, 0, "down"), (6, 0, "move"))
        self.wrong(2, (7, 0, "down"), (9, 0, "move"), (8, 0, "up"))
        self.wrong(3, (1, 0, "down"), (3, 1, "down"), (3, 0, "up"), (2, 1, "up"))
        self.wrong(2, (1, 0, "down"), (10 ** 9, 0, "up"), (0, 0, "down"))

    def test_a_finger_down_twice(self):
        self.wrong(1, (0, 0, "down"), (1, 0, "down"))
        self.wrong(2, (0, 3, "down"), (1, 3, "move"), (2, 3, "down"))
        self.wrong(2, (0, 3, "down"), (1, 4, "down"), (2, 3, "down"))

    def test_one_that_is_not_down(self):
        for word in ("move", "up", "lost"):
            self.wrong(0, (0, 0, word))
            self.wrong(1, (0, 0, "down"), (1, 1, word))
            for over in ("up", "lost"):
                self.wrong(2, (0, 0, "down"), (1, 0, over), (2, 0, word))

    def test_one_that_goes_down_again(self):
        for over in ("up", "lost"):
            self.right((0, 0, "down"), (1, 0, over), (2, 0, "down"), (3, 0, "move"), (4, 0, "up"))
            self.wrong(3, (0, 0, "down"), (1, 0, over), (2, 0, "down"), (3, 0, "down"))

    def test_ten_fingers_at_once(self):
        downs = [(finger, finger, "down") for finger in range(10)]
        for word in ("move", "up", "lost"):
            self.right(*downs, *[(9, finger, word) for finger in reversed(range(10))])
        self.wrong(10, *downs, (9, 4, "down"))
        self.wrong(11, *downs, (9, 4, "up"), (9, 4, "move"))

    def test_the_first_one_of_several(self):
        self.wrong(1, (5, 0, "down"), (4, 0, "move"), (3, 0, "up"), (2, 1, "up"))
        self.wrong(0, (5, 0, "up"), (4, 0, "down"), (3, 0, "down"))
        self.wrong(2, (5, 0, "down"), (5, 0, "up"), (5, 0, "up"), (1, 0, "up"), (6, 0, "down"))

    def test_places_count_for_nothing(self):
        self.assertIsNone(first_wrong([(0, 0, "down", -10000, 10000), (0, 0, "up", 10000, -10000)]))

    def test_what_is_no_touch_is_not_right(self):
        good = (0, 0, "down", 0, 0)
        for thing in (list(good), (0, 10, "down", 0, 0), (0, 1, "tap", 0, 0), (True, 1, "down", 0, 0),
                      (10 ** 9 + 1, 1, "down", 0, 0), None, ()):
            self.assertEqual(first_wrong([good, thing, (1, 0, "up", 0, 0)]), 1)

    def test_against_a_model(self):
        kinds = [(moment, finger, word) for moment in (0, 1) for finger in (0, 1) for word in ("down", "up", "lost", "move")]
        for count in range(4):
            for touches in itertools.product(kinds, repeat=count):
                self.assertEqual(first_wrong(row(*touches)), wrong_of_model(touches), touches)

    def test_the_list_stays(self):
        touches = row((0, 0, "down"), (1, 0, "up"), (1, 0, "up"))
        before = copy.deepcopy(touches)
        self.assertEqual([first_wrong(touches), first_wrong(touches)], [2, 2])
        self.assertEqual(touches, before)


def wrong_of_model(touches):
    """The first number whose moment is behind a later one's, or whose finger's own words don't fit."""
    for number, (moment, finger, word) in enumerate(touches):
        own = [other[2] for other in touches[:number] if other[1] == finger]
        is_down = bool(own) and own[-1] in ("down", "move")
        if any(other[0] > moment for other in touches[:number]) or is_down == (word == "down"):
            return number
    return None


class StrokesOf(unittest.TestCase):
    def test_no_touch_at_all(self):
        self.assertEqual(strokes_of([]), [])

    def test_of_one_finger_behind_one_another(self):
        first = [(0, 0, "down", 1, 2), (1, 0, "move", 3, 4), (2, 0, "up", 5, 6)]
        other = [(2, 0, "down", 7, 8), (3, 0, "up", 7, 8)]
        third = [(9, 0, "down", 7, 8), (9, 0, "move", 7, 8), (9, 0, "move", 7, 9), (9, 0, "up", 7, 8)]
        self.assertEqual(strokes_of(first + other + third), [first, other, third])

    def test_of_several_fingers_at_once_in_the_order_of_their_downs(self):
        touches = [
            (0, 5, "down", 0, 0), (0, 2, "down", 1, 1), (1, 2, "move", 2, 2), (1, 7, "down", 3, 3), (2, 5, "move", 4, 4),
            (3, 2, "up", 5, 5), (3, 2, "down", 6, 6), (4, 7, "up", 7, 7), (4, 5, "up", 8, 8), (5, 2, "up", 9, 9),
        ]
        picked = [[0, 4, 8], [1, 2, 5], [3, 7], [6, 9]]
        self.assertEqual(strokes_of(touches), [[touches[at] for at in row] for row in picked])

    def test_ten_fingers(self):
        downs = [(0, finger, "down", finger, 0) for finger in (3, 1, 4, 5, 9, 2, 6, 8, 7, 0)]
        ups = [(1, finger, "up", 0, finger) for finger in range(10)]
        told = strokes_of(downs + ups)
        self.assertEqual(told, [[down, ups[down[1]]] for down in downs])

    def test_a_lost_one_is_over(self):
        touches = [(0, 0, "down", 1, 2), (1, 0, "lost", 3, 4), (2, 0, "down", 5, 6), (3, 0, "up", 5, 6)]
        self.assertEqual(strokes_of(touches), [touches[:2], touches[2:]])

    def test_such_as_are_not_over_at_the_end(self):
        touches = [(0, 0, "down", 0, 0), (1, 1, "down", 0, 0), (2, 0, "up", 0, 0), (3, 2, "down", 0, 0), (4, 1, "move", 1, 1)]
        self.assertEqual(strokes_of(touches), [[touches[0], touches[2]], [touches[1], touches[4]], [touches[3]]])
        self.assertEqual(strokes_of(touches[:1]), [touches[:1]])

    def test_what_a_finger_does_that_is_not_down_is_no_stroke(self):
        touches = [(0, 0, "move", 0, 0), (1, 0, "up", 0, 0), (2, 0, "down", 0, 0), (3, 1, "lost", 0, 0), (4, 0, "up", 0, 0),
                   (5, 0, "move", 0, 0), (6, 0, "up", 0, 0)]
        self.assertEqual(strokes_of(touches), [[touches[2], touches[4]]])

    def test_each_touch_of_a_right_row_once(self):
        words = [(finger, word) for finger in (0, 1) for word in ("down", "move", "up", "lost")]
        for picked in itertools.product(words, repeat=5):
            touches = [(moment, finger, word, moment, -moment) for moment, (finger, word) in enumerate(picked)]
            if first_wrong(touches) is not None:
                continue
            told = strokes_of(touches)
            self.assertEqual(sorted(one for stroke in told for one in stroke), touches)
            self.assertEqual([stroke[0] for stroke in told], [one for one in touches if one[2] == "down"])
            for stroke in told:
                self.assertEqual(len({one[1] for one in stroke}), 1)
                self.assertEqual(stroke, sorted(stroke))
                self.assertEqual([one[2] for one in stroke if one[2] == "down"], ["down"])
                self.assertEqual([one[2] for one in stroke[:-1] if one[2] in ("up", "lost")], [])

    def test_what_is_told_is_new_and_what_is_handed_in_stays(self):
        touches = [(0, 0, "down", 0, 0), (1, 0, "up", 0, 0), (2, 1, "down", 0, 0)]
        before = copy.deepcopy(touches)
        told = strokes_of(touches)
        told[0].append("more")
        told[1].clear()
        told.append([])
        self.assertEqual(touches, before)
        self.assertEqual(strokes_of(touches), [before[:2], before[2:]])
        touches.clear()
        self.assertEqual(told[0], before[:2] + ["more"])

    def test_the_kinds_of_what_is_told(self):
        told = strokes_of([(0, 0, "down", 0, 0), (1, 0, "up", 0, 0)])
        self.assertEqual([type(told), type(told[0]), type(told[0][0])], [list, list, tuple])


if __name__ == "__main__":
    unittest.main()
