"""Shelves: what each takes of a step, and their places [22 to 24]."""

import itertools
import unittest

import draws
from strokeguess.scenes import is_scene, parts_of
from strokeguess.shelves import Shelves


def part(name, shelf=None, *parts):
    return (name, (0, 0, 100, 100), None, shelf, (), parts)


def scene(first):
    found = (first, (), ())
    assert is_scene(found), found
    return found


# Within one another: across, along, none, across, and one of either way beside the last one.
NESTED = scene(part("a", ("across", -100, 100), part("b", ("along", -5, 7), part("c", None, part(
    "d", ("across", -3, 10), part("e", ("along", 0, 0)), part("f", ("along", -9, 9)))))))


class Steps(unittest.TestCase):
    def test_within_room_the_innermost_one_takes_all(self):
        for step in (-3, -1, 1, 10):
            shelves = Shelves(NESTED)
            self.assertEqual(shelves.step("d", step, 0), ([("d", step, step)], (0, 0)))
            self.assertEqual(shelves.places(), {"a": 0, "b": 0, "d": step, "e": 0, "f": 0})

    def test_beyond_its_room_the_next_one_outward_of_the_way_takes_what_is_left(self):
        shelves = Shelves(NESTED)
        self.assertEqual(shelves.step("d", 11, 0), ([("d", 10, 10), ("a", 1, 1)], (0, 0)))
        self.assertEqual(shelves.step("d", 4, 0), ([("a", 4, 5)], (0, 0)))
        self.assertEqual(shelves.step("d", -4, 0), ([("d", -4, 6)], (0, 0)))
        self.assertEqual(shelves.step("d", -20, 0), ([("d", -9, -3), ("a", -11, -6)], (0, 0)))
        self.assertEqual(shelves.places(), {"a": -6, "b": 0, "d": -3, "e": 0, "f": 0})

    def test_what_no_shelf_takes_is_left_over(self):
        shelves = Shelves(NESTED)
        self.assertEqual(shelves.step("d", 20000, 0), ([("d", 10, 10), ("a", 100, 100)], (19890, 0)))
        self.assertEqual(shelves.step("d", 1, 0), ([], (1, 0)))
        self.assertEqual(shelves.step("d", -20000, 0), ([("d", -13, -3), ("a", -200, -100)], (-19787, 0)))
        self.assertEqual(shelves.step("d", -1, 0), ([], (-1, 0)))

    def test_both_ways_at_once_across_ahead_of_along(self):
        shelves = Shelves(NESTED)
        taken, over = shelves.step("f", -5, 20)
        self.assertEqual(taken, [("d", -3, -3), ("a", -2, -2), ("f", 9, 9), ("b", 7, 7)])
        self.assertEqual(over, (0, 4))
        self.assertEqual(shelves.step("f", 3, -20), ([("d", 3, 0), ("f", -18, -9), ("b", -2, 5)], (0, 0)))

    def test_no_step_is_taken_by_none(self):
        shelves = Shelves(NESTED)
        self.assertEqual(shelves.step("f", 0, 0), ([], (0, 0)))
        shelves.step("f", 2, 2)
        self.assertEqual(shelves.step("f", 0, 0), ([], (0, 0)))

    def test_a_shelf_without_room_takes_nothing(self):
        shelves = Shelves(NESTED)
        self.assertEqual(shelves.step("e", 0, 9), ([("b", 7, 7)], (0, 2)))
        self.assertEqual(shelves.step("e", 0, -1), ([("b", -1, 6)], (0, 0)))
        lone = Shelves(scene(part("a", ("across", 0, 0))))
        self.assertEqual(lone.step("a", -7, 7), ([], (-7, 7)))
        self.assertEqual(lone.places(), {"a": 0})

    def test_a_part_without_a_shelf_passes_its_steps_outward(self):
        shelves = Shelves(NESTED)
        self.assertEqual(shelves.step("c", 3, 3), ([("a", 3, 3), ("b", 3, 3)], (0, 0)))
        bare = Shelves(scene(part("a", None, part("b"))))
        self.assertEqual(bare.step("b", 5, -6), ([], (5, -6)))
        self.assertEqual(bare.places(), {})

    def test_shelves_of_parts_further_in_or_beside_take_nothing(self):
        shelves = Shelves(NESTED)
        self.assertEqual(shelves.step("a", 5, 5), ([("a", 5, 5)], (0, 5)))
        self.assertEqual(shelves.step("e", 0, 1), ([("b", 1, 1)], (0, 0)))

    def test_one_way_within_one_another(self):
        shelves = Shelves(scene(part("a", ("along", -2, 2), part("b", ("along", -3, 3), part("c", ("along", -4, 4))))))
        self.assertEqual(shelves.step("c", 1, 8), ([("c", 4, 4), ("b", 3, 3), ("a", 1, 1)], (1, 0)))
        self.assertEqual(shelves.step("b", 0, -8), ([("b", -6, -3), ("a", -2, -1)], (0, 0)))
        self.assertEqual(shelves.step("c", 0, -8), ([("c", -8, -4)], (0, 0)))

    def test_each_step_against_a_shelf_that_goes_point_by_point(self):
        for least, most in ((0, 0), (-2, 0), (0, 3), (-2, 3)):
            for steps in itertools.product((-4, -1, 2, 5), repeat=3):
                shelves, place = Shelves(scene(part("a", ("across", least, most)))), 0
                for step in steps:
                    start = place
                    for _ in range(abs(step)):
                        further = place + (1 if step > 0 else -1)
                        place = further if least <= further <= most else place
                    took = place - start
                    wanted = [("a", took, place)] if took else []
                    self.assertEqual(shelves.step("a", step, 0), (wanted, (step - took, 0)))

    def test_steps_of_drawn_scenes_sum_up_and_stay_in_room(self):
        for seed in range(60):
            draw = draws.drawn(seed)
            found = draws.scene(draw)
            shelves = Shelves(found)
            rooms = {one[0]: one[3] for one in walk(found[0]) if one[3]}
            for _ in range(30):
                dx, dy = draw.randint(-60, 60), draw.randint(-60, 60)
                before = shelves.places()
                taken, over = shelves.step(draw.choice(parts_of(found)), dx, dy)
                behind = shelves.places()
                self.assertEqual({name: behind[name] - before[name] for name in rooms if behind[name] != before[name]},
                                 {name: took for name, took, _ in taken})
                self.assertTrue(all(behind[name] == place and took for name, took, place in taken))
                for at, way, step in ((0, "across", dx), (1, "along", dy)):
                    self.assertEqual(over[at] + sum(took for name, took, _ in taken if rooms[name][0] == way), step)
                self.assertTrue(all(least <= behind[name] <= most for name, (_, least, most) in rooms.items()))


def walk(one):
    yield one
    for inner in one[5]:
        yield from walk(inner)


class Places(unittest.TestCase):
    def test_at_first_each_is_0(self):
        self.assertEqual(Shelves(NESTED).places(), {"a": 0, "b": 0, "d": 0, "e": 0, "f": 0})
        self.assertEqual(Shelves(scene(part("a"))).places(), {})

    def test_told_places_are_the_askers_own(self):
        shelves = Shelves(NESTED)
        places = shelves.places()
        places["a"] = 50
        del places["b"]
        taken, _ = shelves.step("a", 1, 1)
        taken.append("x")
        self.assertEqual(shelves.places(), {"a": 1, "b": 0, "d": 0, "e": 0, "f": 0})
        self.assertEqual(places["a"], 50)
        self.assertEqual(shelves.step("d", 0, 1), ([("b", 1, 1)], (0, 0)))

    def test_copies_go_each_their_own_way(self):
        shelves = Shelves(NESTED)
        shelves.step("d", 4, 4)
        one = shelves.copy()
        two = one.copy()
        self.assertEqual([one.places(), two.places()], [shelves.places()] * 2)
        shelves.step("d", 1, 0)
        one.step("d", 2, 0)
        two.step("d", 3, 0)
        self.assertEqual([each.places()["d"] for each in (shelves, one, two)], [5, 6, 7])
        self.assertEqual([each.places()["b"] for each in (shelves, one, two)], [4, 4, 4])

    def test_put_back(self):
        shelves = Shelves(NESTED)
        shelves.step("f", 12, 12)
        shelves.put_back(["c", "d", "e", "f"])
        self.assertEqual(shelves.places(), {"a": 2, "b": 3, "d": 0, "e": 0, "f": 0})
        self.assertEqual(shelves.step("f", 1, 1), ([("d", 1, 1), ("f", 1, 1)], (0, 0)))


if __name__ == "__main__":
    unittest.main()
