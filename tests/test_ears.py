"""Ears: which parts hear a stroke's touches, to the first that stops them [27]."""

import unittest

from build import Asked, part, reader, scene, touch

MOVES = [("down", 0, 50, 50), ("move", 1, 900, 900), ("up", 2, 50, 50)]


def nested(*ears):
    """Parts within one another, the first one outermost, named a, b, c and so on."""
    found = ()
    for at in reversed(range(len(ears))):
        found = (part("abcdef"[at], ear=ears[at], parts=found),)
    return scene(found[0])


class Ears(Asked):
    def hears(self, ears, names, rows=MOVES):
        made = reader(nested(*ears), *rows)
        self.assertEqual(made.heard(), [(row[1], name, 0, row[0]) for row in rows for name in names])
        return made

    def test_innermost_first_each_once(self):
        self.hears(("hear", "hear", "hear"), "cba")
        self.hears(("hear", None, "hear"), "ca")
        self.hears((None, None, None), "")
        self.hears((None, None, "hear"), "c")

    def test_to_the_first_that_stops_it_that_one_too(self):
        self.hears(("hear", "stop", "hear"), "cb")
        self.hears(("hear", "hear", "stop"), "c")
        self.hears(("stop", "hear", "hear"), "cba")
        self.hears(("stop", "stop", None), "b")
        self.hears(("hear", "stop", None, "stop", "hear", None), "ed")

    def test_lost_touches_too(self):
        self.hears(("hear", "stop"), "b", [("down", 0), ("lost", 1, 900, 900)])

    def test_each_touch_by_its_strokes_own_way(self):
        found = scene(part("all", ear="hear", parts=[part("a", ear="stop", box=(0, 0, 50, 50)),
                                                    part("b", ear="hear", box=(50, 0, 50, 50))]))
        rows = [("down", 0, 10, 10, 1), ("down", 1, 60, 10, 2), ("move", 2, 60, 10, 1), ("move", 3, 10, 10, 2),
                ("down", 4, 150, 150, 3), ("down", 5, 900, 900, 4), ("up", 6, 0, 0, 2)]
        self.assertEqual(reader(found, *rows).heard(), [
            (0, "a", 1, "down"), (1, "b", 2, "down"), (1, "all", 2, "down"), (2, "a", 1, "move"), (3, "b", 2, "move"),
            (3, "all", 2, "move"), (4, "all", 3, "down"), (6, "b", 2, "up"), (6, "all", 2, "up"),
        ])

    def test_wishes_and_wins_change_nothing(self):
        found = scene(part("all", ("tap", "t", 1), ear="hear", parts=[part("in", ("tap", "u", 1), ear="hear")]))
        self.assertEqual(reader(found, ("down", 0), ("up", 9)).heard(),
                         [(0, "in", 0, "down"), (0, "all", 0, "down"), (9, "in", 0, "up"), (9, "all", 0, "up")])

    def test_parts_that_are_out_hear_and_stop_nothing_as_long_as_they_are(self):
        made = reader(nested("hear", "hear", "stop"), ("down", 0))
        made.out("b")
        made.put(touch("move", 1))
        made.put(touch("down", 2, finger=1))
        made.back()
        made.put(touch("move", 3))
        made.put(touch("move", 3, finger=1))
        self.assertEqual(made.heard(), [(0, "c", 0, "down"), (1, "a", 0, "move"), (2, "a", 1, "down"), (3, "c", 0, "move"),
                                        (3, "a", 1, "move")])

    def test_an_inner_one_that_is_out_stops_nothing(self):
        made = reader(nested("hear", "hear", "stop"), ("down", 0))
        made.out("c")
        made.put(touch("up", 1))
        self.assertEqual(made.heard()[1:], [(1, "b", 0, "up"), (1, "a", 0, "up")])

    def test_time_passing_is_not_heard(self):
        made = reader(nested("hear"), ("down", 0))
        made.go(500)
        self.assertEqual(made.heard(), [(0, "a", 0, "down")])


if __name__ == "__main__":
    unittest.main()
