"""Ways: which parts are at a place [6], in which order, and where the corners of parts are [7]."""

import copy
import random
import unittest

from strokeguess.scenes import is_scene, parts_of
from strokeguess.ways import corners, way_at


def part(name, box, *parts, shelf=None):
    return (name, box, None, shelf, (), parts)


def scene(top):
    return (top, (), ())


def across(least=-10000, most=10000):
    return ("across", least, most)


def along(least=-10000, most=10000):
    return ("along", least, most)


NAMES = [one + other for one in "abcde" for other in "abcdef"]

# One part in another one, the inner one three to the right and four down of the outer one's corner.
TWO = scene(part("outer", (10, 20, 100, 50), part("inner", (3, 4, 30, 10))))

# Shelves on each of four parts within one another, with a part beside them on the second one.
SHELVED = scene(part(
    "a", (0, 0, 1000, 1000),
    part(
        "b", (10, 20, 500, 500),
        part("c", (1, 2, 100, 100), part("d", (5, 6, 50, 50), part("e", (7, 8, 9, 9)), shelf=across()), shelf=along()),
        part("f", (200, 0, 10, 10)),
        shelf=across(-300, 300),
    ),
    shelf=along(-300, 300),
))


def deep_scene(shelves=True):
    """Six parts within one another, thirty in all: five rows of six, of which each begins in the one ahead."""
    def row(at, depth):
        name = NAMES[at * 6 + depth]
        shelf = (None, across(), along())[(at + depth) % 3] if shelves else None
        box = (3 * depth - at, 2 * depth + at, 120 - 9 * depth, 100 - 7 * depth)
        return part(name, box, *([row(at, depth + 1)] if depth < 5 else []), shelf=shelf)

    top = row(0, 0)
    others = [row(at, 1) for at in range(1, 5)]
    # The four first ones of the other rows stand side by side in the very first part.
    extra = [part(NAMES[at * 6], (30 * at, 5, 40, 90)) for at in range(1, 5)]
    return scene(top[:5] + (top[5] + tuple(others) + tuple(extra),))


def boxes_of(one, left, top, above, places):
    """Each part's name, the part, its box in the scene's places, and the boxes of all about it."""
    name, (dx, dy, wide, high), _, shelf, _, parts = one
    left, top = left + dx, top + dy
    boxes = above + [(left, top, left + wide, top + high)]
    told = {name: (one, boxes)}
    moved = places.get(name, 0)
    if shelf is not None:
        left, top = (left + moved, top) if shelf[0] == "across" else (left, top + moved)
    for inner in parts:
        told.update(boxes_of(inner, left, top, boxes, places))
    return told


def way_of_model(top, x, y, places):
    """The way, of those parts that are at the place by their own box and all boxes about it."""
    told = boxes_of(top, 0, 0, [], places)
    there = [name for name, (_, boxes) in told.items()
             if all(x in range(left, right) and y in range(upper, lower) for left, upper, right, lower in boxes)]
    way = []
    parts = [top[0]]
    while [name for name in parts if name in there]:
        way.insert(0, [name for name in parts if name in there][-1])
        parts = [inner[0] for inner in told[way[0]][0][5]]
    return way


class OneBox(unittest.TestCase):
    def test_each_edge_of_the_first_part(self):
        one = scene(part("a", (10, 20, 30, 40)))
        for x, y in ((10, 20), (39, 59), (10, 59), (39, 20), (25, 40), (10, 40), (39, 40), (25, 20), (25, 59)):
            self.assertEqual(way_at(one, x, y), ["a"], (x, y))
        for x, y in ((9, 20), (10, 19), (40, 20), (10, 60), (40, 59), (39, 60), (40, 60), (9, 19), (9, 40), (25, 19),
                     (40, 40), (25, 60)):
            self.assertEqual(way_at(one, x, y), [], (x, y))

    def test_below_nought_and_one_wide(self):
        one = scene(part("a", (-10000, -10000, 1, 1)))
        self.assertEqual(way_at(one, -10000, -10000), ["a"])
        for x, y in ((-9999, -10000), (-10000, -9999), (-10001, -10000), (-10000, -10001), (0, 0)):
            self.assertEqual(way_at(one, x, y), [])
        self.assertEqual(corners(one), {"a": (-10000, -10000)})

    def test_each_edge_of_an_inner_part(self):
        # The inner box stands in the outer one's places: 13 to 42 across, 24 to 33 along.
        for x, y in ((13, 24), (42, 33), (13, 33), (42, 24)):
            self.assertEqual(way_at(TWO, x, y), ["inner", "outer"], (x, y))
        for x, y in ((12, 24), (13, 23), (43, 24), (13, 34), (43, 33), (42, 34)):
            self.assertEqual(way_at(TWO, x, y), ["outer"], (x, y))

    def test_a_place_without_the_first_part(self):
        self.assertEqual(way_at(TWO, 9, 24), [])
        self.assertEqual(way_at(TWO, 10000, -10000), [])
        self.assertEqual(way_at(TWO, 10 ** 60, -(10 ** 60)), [])


class Parts(unittest.TestCase):
    def test_one_that_reaches_beyond_the_one_about_it(self):
        wide = scene(part("a", (0, 0, 100, 100), part("b", (50, 50, 100, 100), part("c", (-60, 10, 200, 20)))))
        self.assertEqual(way_at(wide, 99, 99), ["b", "a"])
        for x, y in ((100, 99), (99, 100), (149, 149), (120, 65)):
            self.assertEqual(way_at(wide, x, y), [], (x, y))
        # It is within the first part, and within c's box, but not within b.
        self.assertEqual(way_at(wide, 49, 65), ["a"])
        self.assertEqual(way_at(wide, 50, 65), ["c", "b", "a"])
        self.assertEqual(way_at(wide, 99, 65), ["c", "b", "a"])

    def test_over_one_another_the_last_one_that_is_there(self):
        top = part("a", (0, 0, 100, 100), part("b", (0, 0, 60, 60)), part("c", (20, 0, 60, 60)), part("d", (40, 0, 10, 60)))
        over = scene(top)
        told = [way_at(over, x, 5)[0] for x in (0, 19, 20, 39, 40, 49, 50, 79, 80)]
        self.assertEqual(told, ["b", "b", "c", "c", "d", "d", "c", "c", "a"])
        self.assertEqual(way_at(over, 45, 5), ["d", "a"])

    def test_of_parts_in_an_earlier_one_nothing_is_told_where_a_later_one_is(self):
        top = part(
            "a", (0, 0, 100, 100),
            part("b", (0, 0, 60, 60), part("c", (0, 0, 60, 60), part("d", (0, 0, 60, 60)))),
            part("e", (30, 30, 60, 60), part("f", (0, 0, 5, 5))),
        )
        deep = scene(top)
        self.assertEqual(way_at(deep, 29, 30), ["d", "c", "b", "a"])
        self.assertEqual(way_at(deep, 30, 29), ["d", "c", "b", "a"])
        self.assertEqual(way_at(deep, 40, 40), ["e", "a"])
        self.assertEqual(way_at(deep, 30, 30), ["f", "e", "a"])
        self.assertEqual(way_at(deep, 60, 29), ["a"])

    def test_the_innermost_one_first(self):
        chain = part("f", (1, 1, 90, 90))
        for name in "edcba":
            chain = part(name, (1, 1, 95, 95), chain)
        self.assertTrue(is_scene(scene(chain)))
        self.assertEqual([way_at(scene(chain), at, at) for at in range(8)], [
            [], ["a"], ["b", "a"], ["c", "b", "a"], ["d", "c", "b", "a"], ["e", "d", "c", "b", "a"],
            ["f", "e", "d", "c", "b", "a"], ["f", "e", "d", "c", "b", "a"],
        ])
        self.assertEqual(corners(scene(chain)), {name: (at, at) for at, name in enumerate("abcdef", 1)})

    def test_six_within_one_another_thirty_in_all(self):
        chance = random.Random(6)
        for shelves in (True, False):
            deep = deep_scene(shelves)
            self.assertTrue(is_scene(deep))
            self.assertEqual(len(parts_of(deep)), 30)
            lengths = {}
            for _ in range(1500):
                x, y = chance.randint(-40, 160), chance.randint(-40, 160)
                places = {name: chance.randint(-20, 20) for name in NAMES} if shelves else {}
                way = way_at(deep, x, y, places=places)
                self.assertEqual(way, way_of_model(deep[0], x, y, places), (x, y, places))
                lengths[len(way)] = True
            self.assertEqual(sorted(lengths), [0, 1, 2, 3, 4, 5, 6])


class Shelves(unittest.TestCase):
    def test_across_to_the_right(self):
        one = scene(part("a", (10, 20, 200, 50), part("b", (30, 5, 10, 10)), shelf=across()))
        for place in (0, 1, 7, 150, -1, -30, -40):
            left = 10 + 30 + place
            self.assertEqual(corners(one, places={"a": place}), {"a": (10, 20), "b": (left, 25)})
            for x, y in ((left, 25), (left + 9, 34)):
                told = ["b", "a"] if 10 <= x < 210 else []
                self.assertEqual(way_at(one, x, y, places={"a": place}), told, (x, place))
            for x in (left - 1, left + 10):
                self.assertEqual(way_at(one, x, 25, places={"a": place}), ["a"] if 10 <= x < 210 else [], (x, place))

    def test_along_down(self):
        one = scene(part("a", (20, 10, 50, 200), part("b", (5, 30, 10, 10)), shelf=along()))
        for place in (0, 1, 7, 150, -1, -30, -40):
            top = 10 + 30 + place
            self.assertEqual(corners(one, places={"a": place}), {"a": (20, 10), "b": (25, top)})
            for y in (top, top + 9):
                self.assertEqual(way_at(one, 25, y, places={"a": place}), ["b", "a"] if 10 <= y < 210 else [])
            for y in (top - 1, top + 10):
                self.assertEqual(way_at(one, 25, y, places={"a": place}), ["a"] if 10 <= y < 210 else [])

    def test_it_moves_what_is_in_it_not_itself(self):
        one = scene(part("a", (10, 20, 30, 40), shelf=across()))
        for place in (-100, 0, 100):
            self.assertEqual(way_at(one, 10, 20, places={"a": place}), ["a"])
            self.assertEqual(corners(one, places={"a": place}), {"a": (10, 20)})

    def test_on_parts_within_one_another_by_all_places(self):
        places = {"a": 100, "b": -20, "c": 3, "d": -4}
        self.assertEqual(corners(SHELVED, places=places), {
            "a": (0, 0), "b": (10, 120), "c": (-9, 122), "d": (-4, 131), "e": (-1, 139), "f": (190, 120),
        })
        # d's left part stands without b, so the way ends there.
        self.assertEqual(way_at(SHELVED, 9, 140, places=places), ["a"])
        self.assertEqual(way_at(SHELVED, 10, 140, places=places), ["d", "c", "b", "a"])
        self.assertEqual(way_at(SHELVED, 195, 125, places=places), ["f", "b", "a"])
        places = {"a": 0, "b": 10, "c": -6, "d": 5}
        self.assertEqual(corners(SHELVED, places=places)["e"], (10 + 1 + 10 + 5 + 7 + 5, 20 + 2 + 6 - 6 + 8))
        self.assertEqual(way_at(SHELVED, 38, 30, places=places), ["e", "d", "c", "b", "a"])
        self.assertEqual(way_at(SHELVED, 46, 38, places=places), ["e", "d", "c", "b", "a"])
        self.assertEqual(way_at(SHELVED, 37, 30, places=places), ["d", "c", "b", "a"])
        self.assertEqual(way_at(SHELVED, 47, 38, places=places), ["d", "c", "b", "a"])

    def test_by_some_places(self):
        self.assertEqual(corners(SHELVED, places={"b": 50}), {
            "a": (0, 0), "b": (10, 20), "c": (61, 22), "d": (66, 28), "e": (73, 36), "f": (260, 20),
        })
        self.assertEqual(corners(SHELVED, places={"c": -7, "d": 1})["e"], (24, 29))
        self.assertEqual(way_at(SHELVED, 73, 36, places={"b": 50}), ["e", "d", "c", "b", "a"])
        self.assertEqual(way_at(SHELVED, 24, 29, places={"d": 1, "c": -7}), ["e", "d", "c", "b", "a"])
        self.assertEqual(way_at(SHELVED, 23, 29, places={"d": 1, "c": -7}), ["d", "c", "b", "a"])

    def test_by_an_empty_dict_by_none_and_left_out(self):
        still = {"a": (0, 0), "b": (10, 20), "c": (11, 22), "d": (16, 28), "e": (23, 36), "f": (210, 20)}
        noughts = {"a": 0, "b": 0, "c": 0, "d": 0}
        self.assertEqual(corners(SHELVED), still)
        for x in range(0, 230, 3):
            for y in range(0, 60, 5):
                way = way_at(SHELVED, x, y)
                self.assertEqual(way, way_of_model(SHELVED[0], x, y, {}))
                for places in (None, {}, noughts):
                    self.assertEqual(way_at(SHELVED, x, y, places=places), way)
        for places in (None, {}, noughts):
            self.assertEqual(corners(SHELVED, places=places), still)

    def test_against_the_model_by_chance(self):
        chance = random.Random(24)
        for _ in range(2000):
            places = {name: chance.randint(-300, 300) for name in "abcd" if chance.random() < 0.7}
            told = corners(SHELVED, places=places)
            boxes = boxes_of(SHELVED[0], 0, 0, [], places)
            self.assertEqual(told, {name: boxes[name][1][-1][:2] for name in "abcdef"})
            name = chance.choice("abcdef")
            x, y = told[name][0] + chance.randint(-2, 10), told[name][1] + chance.randint(-2, 10)
            self.assertEqual(way_at(SHELVED, x, y, places=places), way_of_model(SHELVED[0], x, y, places))


class Told(unittest.TestCase):
    def test_corners_of_all_parts_also_those_that_no_place_is_in(self):
        far = scene(part("a", (5, 5, 10, 10), part("b", (500, -500, 1, 1), part("c", (-500, 500, 1, 1), shelf=along()))))
        self.assertEqual(corners(far), {"a": (5, 5), "b": (505, -495), "c": (5, 5)})
        over = scene(part("a", (0, 0, 9, 9), part("b", (0, 0, 9, 9)), part("c", (0, 0, 9, 9))))
        self.assertEqual(corners(over), {"a": (0, 0), "b": (0, 0), "c": (0, 0)})
        self.assertEqual(sorted(corners(deep_scene())), NAMES)

    def test_what_is_told_is_new_each_time(self):
        first = way_at(TWO, 13, 24)
        first.append("more")
        first[0] = "other"
        self.assertEqual(way_at(TWO, 13, 24), ["inner", "outer"])
        told = corners(TWO)
        told["outer"] = None
        del told["inner"]
        self.assertEqual(corners(TWO), {"outer": (10, 20), "inner": (13, 24)})
        empty = way_at(TWO, 0, 0)
        empty.append("more")
        self.assertEqual(way_at(TWO, 0, 0), [])

    def test_the_kinds_of_what_is_told(self):
        self.assertIs(type(way_at(TWO, 13, 24)), list)
        self.assertIs(type(way_at(TWO, 0, 0)), list)
        told = corners(SHELVED, places={"a": 3})
        self.assertIs(type(told), dict)
        for name, corner in told.items():
            self.assertIs(type(name), str)
            self.assertEqual([type(corner), type(corner[0]), type(corner[1]), len(corner)], [tuple, int, int, 2])

    def test_what_is_handed_in_stays(self):
        places = {"a": 100, "c": -3}
        before = copy.deepcopy((SHELVED, places))
        way_at(SHELVED, 20, 130, places=places)
        corners(SHELVED, places=places)
        self.assertEqual((SHELVED, places), before)

    def test_places_are_handed_in_by_name(self):
        with self.assertRaises(TypeError):
            way_at(TWO, 13, 24, {})
        with self.assertRaises(TypeError):
            corners(TWO, {})


if __name__ == "__main__":
    unittest.main()
