"""Scenes: their words, boxes, wishes, shelves, ears [4], parts and pairs [5], and the lists of what is in them."""

import itertools
import unittest

from strokeguess.machines import machine_of
from strokeguess.scenes import is_scene, parts_of, wishes_of
from things import JUNK, SIXTY, mixed, nested, spoiled

NO_WORDS = (
    "", "ninelette", "A", "aB", "Ab", "a1", "1", "a b", " a", "a ", "a_b", "a-b", "`", "{", "a\n", "\n",
    None, True, 0, 1, (), ("a",), ["a"], [],
)
NO_NUMBERS = (True, False, None, "1", "", (), (1,), [1], SIXTY, -SIXTY)
MACHINE = ((None, (("up", "claim"),)),)


def part(name="p", box=(0, 0, 1, 1), ear=None, shelf=None, wishes=(), parts=()):
    return (name, box, ear, shelf, wishes, parts)


def scene(top, beside=(), heeds=()):
    return (top, beside, heeds)


def wished(*wishes):
    return scene(part(wishes=wishes))


def name_of(number):
    """A word for each number, unlike ones for unlike numbers."""
    return "abcdefghijklmnopqrstuvwxyz"[number // 26] + "abcdefghijklmnopqrstuvwxyz"[number % 26]


def many_labels(count):
    """A part with so many labels in it, name_of(0) and so on, six at each part."""
    labels = [name_of(number) for number in range(count)]
    parts = []
    for at in range(6, count, 6):
        wishes = tuple(("spread", label) for label in labels[at:at + 6])
        parts.append(part("q" + name_of(at), wishes=wishes))
    return part(wishes=tuple(("turn", label) for label in labels[:6]), parts=tuple(parts))


class Asked(unittest.TestCase):
    def right(self, *things):
        for thing in things:
            with self.subTest(thing=thing):
                self.assertIs(is_scene(thing), True)

    def wrong(self, *things):
        for thing in things:
            with self.subTest(thing=thing):
                self.assertIs(is_scene(thing), False)


class Words(Asked):
    def test_one_to_eight_small_letters(self):
        for word in ("a", "z", "ab", "eightlet", "abcdefgh", "stuvwxyz"):
            self.right(scene(part(word)), wished(("turn", word)))

    def test_no_other_texts_and_things(self):
        for word in NO_WORDS:
            self.wrong(scene(part(word)), wished(("turn", word)), wished(("tap", word, 1)))
            self.wrong(wished(("press", word, 5)), wished(("pull", word, "any")), wished(("spread", word)))
            self.wrong(wished(("made", word, MACHINE)))

    def test_a_name_of_a_part_in_another_one(self):
        for word in NO_WORDS:
            self.wrong(scene(part(parts=(part(word),))))


class Boxes(Asked):
    def boxed(self, *box):
        return scene(part(box=box))

    def test_left_and_top_to_their_bounds(self):
        for number in (-10000, -9999, -1, 0, 1, 9999, 10000):
            self.right(self.boxed(number, 0, 1, 1), self.boxed(0, number, 1, 1))
        for number in (-10001, 10001, *NO_NUMBERS):
            self.wrong(self.boxed(number, 0, 1, 1), self.boxed(0, number, 1, 1))

    def test_wide_and_high_to_their_bounds(self):
        for number in (1, 2, 9999, 10000):
            self.right(self.boxed(0, 0, number, 1), self.boxed(0, 0, 1, number))
        for number in (-10000, -1, 0, 10001, *NO_NUMBERS):
            self.wrong(self.boxed(0, 0, number, 1), self.boxed(0, 0, 1, number))

    def test_all_at_their_bounds(self):
        self.right(self.boxed(-10000, -10000, 1, 1), self.boxed(10000, 10000, 10000, 10000))

    def test_four_numbers_in_a_tuple(self):
        self.wrong(self.boxed(), self.boxed(0, 0, 1), self.boxed(0, 0, 1, 1, 1), self.boxed((0, 0, 1, 1)))
        for box in ([0, 0, 1, 1], None, 0, "aaaa", "", True):
            self.wrong(scene(part(box=box)))

    def test_a_box_of_a_part_in_another_one(self):
        self.right(scene(part(parts=(part("q", (5, 5, 10000, 10000)),))))
        self.wrong(scene(part(parts=(part("q", (5, 5, 10001, 10000)),))))


class Wishes(Asked):
    def test_taps(self):
        self.right(*[wished(("tap", "t", times)) for times in (1, 2, 3)])
        self.wrong(*[wished(("tap", "t", times)) for times in (-1, 0, 4, 5, "any", *NO_NUMBERS)])

    def test_presses(self):
        self.right(*[wished(("press", "p", wait)) for wait in (1, 2, 500, 9999, 10000)])
        self.wrong(*[wished(("press", "p", wait)) for wait in (-1, 0, 10001, "any", *NO_NUMBERS)])

    def test_pulls(self):
        self.right(*[wished(("pull", "p", way)) for way in ("any", "across", "along")])
        self.wrong(*[wished(("pull", "p", way)) for way in ("", "Any", "both", "any ", 1, *NO_NUMBERS)])

    def test_spreads_and_turns(self):
        self.right(wished(("spread", "s")), wished(("turn", "t")), wished(("spread", "s"), ("turn", "t")))

    def test_made_ones(self):
        for count in (1, 2, 3):
            self.right(wished(("made", "m", machine_of(("tap", "t", count)))))
        self.right(wished(("made", "m", ((None, ()),) * 8)), wished(("made", "m", machine_of(("press", "p", 10000)))))
        self.wrong(wished(("made", "m", ())), wished(("made", "m", ((None, ()),) * 9)))
        self.wrong(wished(("made", "m", [(None, ())])), wished(("made", "m", ((0, (("wait", 0),)),))))
        self.wrong(*[wished(("made", "m", more)) for more in (1, "any", *NO_NUMBERS)])

    def test_a_thing_more_and_a_thing_fewer(self):
        for wish in (("tap", "a", 1), ("press", "a", 1), ("pull", "a", "any"), ("made", "a", MACHINE),
                     ("spread", "a"), ("turn", "a")):
            self.right(wished(wish))
            for more in (1, "any", MACHINE, None, (), "a"):
                self.wrong(wished(wish + (more,)))
            self.wrong(wished(wish[:-1]), wished(wish[:1]), wished(()))

    def test_no_other_kind(self):
        for kind in ("", "taps", "Tap", "tap ", "drag", "any", None, 0, True, (), ("tap",), ["tap"]):
            self.wrong(wished((kind, "a")))
            for more in (1, 5, "any", MACHINE):
                self.wrong(wished((kind, "a", more)))

    def test_no_wish_at_all(self):
        for thing in (None, 0, "tap", "ab", True, [], ["tap", "a", 1], ["turn", "a"]):
            self.wrong(wished(thing), wished(("turn", "b"), thing), wished(thing, ("turn", "b")))

    def test_wishes_are_in_a_tuple(self):
        self.right(scene(part(wishes=())))
        for thing in ([], [("turn", "a")], None, 0, "", "ab", True, ("turn", "a")):
            self.wrong(scene(part(wishes=thing)))

    def test_six_wishes_and_seven(self):
        six = tuple(("turn", name_of(number)) for number in range(6))
        self.right(wished(*six), wished(*six[:5]))
        self.right(scene(part(wishes=six, parts=(part("q", wishes=(("turn", "zz"),)),))))
        self.wrong(wished(*six, ("turn", "zz")), wished(*six, ("tap", "zz", 1), ("spread", "zy")))
        self.right(scene(part(parts=(part("q", wishes=six),))))
        self.wrong(scene(part(parts=(part("q", wishes=six + (("turn", "zz"),)),))))


class ShelvesAndEars(Asked):
    def shelved(self, *shelf):
        return scene(part(shelf=shelf))

    def test_shelves(self):
        self.right(scene(part(shelf=None)), self.shelved("across", 0, 0), self.shelved("along", 0, 0))
        self.wrong(*[self.shelved(way, 0, 0) for way in ("any", "", "Across", None, 0, True, (), ["across"])])

    def test_least_and_most_to_their_bounds(self):
        for way in ("across", "along"):
            self.right(*[self.shelved(way, least, 0) for least in (-10000, -9999, -1, 0)])
            self.right(*[self.shelved(way, 0, most) for most in (0, 1, 9999, 10000)])
            self.right(self.shelved(way, -10000, 10000))
            self.wrong(*[self.shelved(way, least, 5) for least in (-10001, 1, 5, *NO_NUMBERS)])
            self.wrong(*[self.shelved(way, -5, most) for most in (-1, -5, 10001, *NO_NUMBERS)])

    def test_a_shelf_is_a_tuple_of_three(self):
        self.wrong(self.shelved(), self.shelved("across"), self.shelved("across", 0), self.shelved("across", 0, 0, 0))
        for shelf in (["across", 0, 0], "across", 0, True, False, [], (None,)):
            self.wrong(scene(part(shelf=shelf)))

    def test_ears(self):
        self.right(*[scene(part(ear=ear)) for ear in (None, "hear", "stop")])
        for ear in ("", "Hear", "hears", "stop ", "none", 0, 1, True, False, (), [], ("hear",), ["stop"]):
            self.wrong(scene(part(ear=ear)), scene(part(parts=(part("q", ear=ear),))))

    def test_shelves_of_a_part_in_another_one(self):
        self.right(scene(part(parts=(part("q", shelf=("along", -3, 4)),))))
        self.wrong(scene(part(parts=(part("q", shelf=("along", 1, 4)),))))


class Parts(Asked):
    def deep(self, count):
        """So many parts, each but the first one in the one ahead of it."""
        made = part(name_of(count))
        for number in range(1, count):
            made = part(name_of(number), parts=(made,))
        return made

    def test_a_part_has_six_things(self):
        for at in range(6):
            self.wrong(scene(part()[:at] + part()[at + 1:]))
        for at in (0, 1, 4, 5):
            self.wrong(scene(part()[:at] + (None,) + part()[at + 1:]))
        self.wrong(scene(part() + ((),)), scene(()), scene(list(part())), scene(None), scene("partsa"))

    def test_parts_are_in_a_tuple(self):
        self.right(scene(part(parts=(part("q"),))), scene(part(parts=(part("q"), part("r")))))
        for thing in ([], [part("q")], None, 0, "", "q", True, part("q"), (None,), ("q",), ((),), ([],),
                      (list(part("q")),), (part("q"), None)):
            self.wrong(scene(part(parts=thing)), scene(part(parts=(part("x", parts=thing),))))

    def test_six_within_one_another_and_seven(self):
        self.right(*[scene(self.deep(count)) for count in range(1, 7)])
        self.wrong(scene(self.deep(7)), scene(self.deep(8)), scene(self.deep(30)))
        beside = self.deep(6)[5]
        self.right(scene(part("zz", parts=(part("zy"),) + beside + (part("zx"),))))
        self.wrong(scene(part("zz", parts=(part("zy"), self.deep(6), part("zx")))))

    def test_thirty_parts_and_thirty_one(self):
        wide = tuple(part(name_of(number)) for number in range(40))
        self.right(scene(part("zz", parts=wide[:28])), scene(part("zz", parts=wide[:29])))
        self.wrong(scene(part("zz", parts=wide[:30])), scene(part("zz", parts=wide)))
        inner = part("zy", parts=wide[:14])
        self.right(scene(part("zz", parts=(inner,) + wide[14:28])))
        self.wrong(scene(part("zz", parts=(inner,) + wide[14:29])))

    def test_names_alike(self):
        self.wrong(scene(part("a", parts=(part("a"),))), scene(part(parts=(part("a"), part("a")))))
        self.wrong(scene(part(parts=(part("b", parts=(part("a"),)), part("c", parts=(part("a"),))))))
        self.wrong(scene(part("a", parts=(part("b", parts=(part("c", parts=(part("a"),)),)),))))
        self.right(scene(part("a", parts=(part("b", parts=(part("aa"),)), part("ab")))))

    def test_labels_alike(self):
        self.wrong(wished(("turn", "a"), ("turn", "a")), wished(("turn", "a"), ("tap", "a", 1)))
        self.wrong(wished(("tap", "a", 1), ("tap", "a", 2)), wished(("turn", "a"), ("spread", "b"), ("turn", "a")))
        self.wrong(scene(part(wishes=(("turn", "a"),), parts=(part("q", wishes=(("turn", "a"),)),))))
        self.wrong(scene(part(parts=(part("q", wishes=(("turn", "a"),)), part("r", wishes=(("spread", "a"),))))))
        self.right(scene(part(wishes=(("turn", "a"),), parts=(part("q", wishes=(("turn", "b"),)),))))

    def test_a_name_may_be_a_label(self):
        self.right(scene(part("a", wishes=(("turn", "a"),))))
        self.right(scene(part("a", wishes=(("turn", "b"),), parts=(part("b", wishes=(("tap", "a", 1),)),))))

    def test_one_tuple_in_many_places_is_soon_told(self):
        thing = part("a")
        for _ in range(5):
            thing = part("b", parts=(thing,) * 1000)
        self.wrong(scene(thing))


class Beside(Asked):
    TOP = part("p", wishes=(("turn", "a"), ("spread", "b"), ("tap", "c", 1)), parts=(
        part("q", wishes=(("press", "d", 9),)),))

    def test_pairs_of_unlike_labels(self):
        self.right(scene(self.TOP), scene(self.TOP, (("a", "b"),)), scene(self.TOP, (("b", "a"),)))
        self.right(scene(self.TOP, (("a", "d"), ("d", "b"), ("a", "b"), ("c", "a"))))
        self.right(scene(self.TOP, tuple(itertools.combinations("abcd", 2))))

    def test_a_label_with_itself(self):
        self.wrong(scene(self.TOP, (("a", "a"),)), scene(self.TOP, (("a", "b"), ("d", "d"))))

    def test_no_label_of_the_scene(self):
        for word in ("p", "q", "e", "ab", "tap", *NO_WORDS):
            self.wrong(scene(self.TOP, ((word, "a"),)), scene(self.TOP, (("a", word),)))
            self.wrong(scene(self.TOP, (("a", "b"), ("c", word))))
        self.wrong(scene(part("p", wishes=(("turn", "a"),)), (("a", "p"),)), scene(part(), (("a", "b"),)))

    def test_a_pair_twice_either_way_about(self):
        self.wrong(scene(self.TOP, (("a", "b"), ("a", "b"))), scene(self.TOP, (("a", "b"), ("b", "a"))))
        self.wrong(scene(self.TOP, (("b", "a"), ("c", "d"), ("a", "b"))))
        self.wrong(scene(self.TOP, (("d", "a"), ("c", "d"), ("d", "a"))))

    def test_tuples_of_two_in_a_tuple(self):
        for thing in ([], [("a", "b")], (["a", "b"],), None, 0, "", "ab", True, ("a", "b"), (("a",),), (("a", "b", "c"),),
                      ((),), ("ab",), (None,), (("a", "b"), None)):
            self.wrong(scene(self.TOP, thing))

    def test_all_pairs_of_many_labels(self):
        top = many_labels(100)
        pairs = tuple(itertools.combinations([name_of(number) for number in range(100)], 2))
        self.right(scene(top, pairs))
        self.wrong(scene(top, pairs + (pairs[0][::-1],)))


class Heeds(Asked):
    TOP = Beside.TOP

    def test_pairs_of_unlike_labels(self):
        self.right(scene(self.TOP, (), (("a", "b"),)), scene(self.TOP, (), (("b", "a"),)))
        self.right(scene(self.TOP, (), (("a", "d"), ("d", "b"), ("a", "b"), ("c", "a"))))
        self.right(scene(self.TOP, (), (("a", "b"), ("a", "c"), ("d", "b"), ("d", "c"), ("b", "c"))))

    def test_a_pair_may_be_beside_and_heed(self):
        self.right(scene(self.TOP, (("a", "b"),), (("a", "b"),)), scene(self.TOP, (("a", "b"),), (("b", "a"),)))

    def test_no_label_of_the_scene(self):
        for word in ("p", "q", "e", "ab", "tap", *NO_WORDS):
            self.wrong(scene(self.TOP, (), ((word, "a"),)), scene(self.TOP, (), (("a", word),)))
            self.wrong(scene(self.TOP, (), (("a", "b"), ("c", word))))

    def test_each_once(self):
        self.wrong(scene(self.TOP, (), (("a", "b"), ("a", "b"))))
        self.wrong(scene(self.TOP, (), (("d", "a"), ("c", "d"), ("d", "a"))))

    def test_rings_of_one_to_many(self):
        self.wrong(scene(self.TOP, (), (("a", "a"),)), scene(self.TOP, (), (("b", "c"), ("d", "d"))))
        self.wrong(scene(self.TOP, (), (("a", "b"), ("b", "a"))), scene(self.TOP, (), (("a", "b"), ("c", "d"), ("d", "c"))))
        self.wrong(scene(self.TOP, (), (("a", "b"), ("b", "c"), ("c", "a"))))
        self.wrong(scene(self.TOP, (), (("c", "a"), ("a", "b"), ("b", "c"))))
        self.wrong(scene(self.TOP, (), (("a", "b"), ("b", "c"), ("c", "d"), ("d", "b"))))
        self.wrong(scene(self.TOP, (), (("a", "b"), ("c", "a"), ("b", "d"), ("d", "c"))))

    def test_long_rows_and_long_rings(self):
        for count in (5, 50, 180):
            top = many_labels(count)
            row = tuple((name_of(number), name_of(number + 1)) for number in range(count - 1))
            self.right(scene(top, (), row), scene(top, (), row[::-1]))
            self.right(scene(top, (), row + ((name_of(0), name_of(count - 1)),)))
            self.wrong(scene(top, (), row + ((name_of(count - 1), name_of(0)),)))
            self.wrong(scene(top, (), ((name_of(count - 1), name_of(count - 3)),) + row[::-1]))

    def test_all_that_do_not_come_back(self):
        top = many_labels(100)
        pairs = tuple(itertools.combinations([name_of(number) for number in range(100)], 2))
        self.right(scene(top, (), pairs))
        self.wrong(scene(top, (), pairs + ((name_of(99), name_of(0)),)))

    def test_many_roads_to_one_label(self):
        # Rungs that part and meet again have very many roads, and are told all the same.
        top = many_labels(180)
        rungs = []
        for at in range(0, 177, 3):
            low, left, right, high = [name_of(at + step) for step in range(4)]
            rungs.extend([(low, left), (low, right), (left, high), (right, high)])
        self.right(scene(top, (), tuple(rungs)))
        self.wrong(scene(top, (), tuple(rungs) + ((name_of(177), name_of(0)),)))

    def test_tuples_of_two_in_a_tuple(self):
        for thing in ([], [("a", "b")], (["a", "b"],), None, 0, "", "ab", True, ("a", "b"), (("a",),), (("a", "b", "c"),),
                      ((),), ("ab",), (None,), (("a", "b"), None)):
            self.wrong(scene(self.TOP, (), thing))

    def test_against_a_plain_search(self):
        pairs = list(itertools.permutations("abcd", 2))
        for count in (2, 3, 4):
            for heeds in itertools.combinations(pairs, count):
                back = any(label in reached(heeds, label) for label in "abcd")
                self.assertIs(is_scene(scene(self.TOP, (), heeds)), not back, heeds)


def reached(heeds, label):
    """All labels to which one comes from a label."""
    found = []
    waiting = [label]
    while waiting:
        at = waiting.pop()
        for one, other in heeds:
            if one == at and other not in found:
                found.append(other)
                waiting.append(other)
    return found


GOOD = scene(
    part("room", (-5, 0, 300, 400), "hear", ("across", -10, 20), (("tap", "open", 2), ("press", "hold", 500)), (
        part("left", (0, 0, 100, 100), None, None, (("pull", "slide", "across"),), (
            part("knob", (1, 2, 3, 4), "stop", ("along", 0, 9), (("turn", "wind"), ("spread", "widen"))),
            part("slot"))),
        part("right", (100, 0, 100, 100), "stop", None, (("made", "open", MACHINE)[:1] + ("knock", MACHINE),)))),
    (("open", "hold"), ("wind", "widen")), (("open", "slide"), ("slide", "wind"), ("knock", "open")))


class Anything(Asked):
    def test_a_scene_has_three_things(self):
        self.right(scene(part()), GOOD)
        self.wrong((part(), ()), (part(), (), (), ()), (part(),), ((), (), ()), list(scene(part())), part())

    def test_junk_is_none(self):
        self.wrong(*JUNK)

    def test_junk_in_each_place(self):
        for thing in spoiled(GOOD):
            self.assertIsInstance(is_scene(thing), bool)

    def test_a_list_in_each_tuple_s_place(self):
        told = [is_scene(thing) for thing in with_a_list(GOOD)]
        self.assertEqual(told, [False] * len(told))
        self.assertGreater(len(told), 30)

    def test_deep_things_and_long_numbers(self):
        for thing in (nested(tuple, 100), nested(list, 100), mixed(100), SIXTY, -SIXTY):
            self.wrong(thing, (thing, thing, thing), scene(thing), scene(part(), thing), scene(part(), (), thing))
            self.wrong(scene(part(thing)), scene(part(box=thing)), scene(part(ear=thing)), scene(part(shelf=thing)))
            self.wrong(scene(part(wishes=thing)), scene(part(parts=thing)), wished(thing), scene(part(parts=(thing,))))
            self.wrong(scene(part(), (thing,)), scene(part(), (), (thing,)), wished(("tap", "a", thing)))
            self.wrong(scene(Beside.TOP, (("a", thing),)), scene(Beside.TOP, (), ((thing, "a"),)))

    def test_what_is_handed_in_stays(self):
        thing = ([["a"], ("b", [1])], [], [("a", "b")])
        self.wrong(thing)
        self.assertEqual(thing, ([["a"], ("b", [1])], [], [("a", "b")]))


def with_a_list(thing):
    """Each thing that is this one but for one tuple, in whose place is a list."""
    if isinstance(thing, tuple):
        yield list(thing)
        for at, inner in enumerate(thing):
            for other in with_a_list(inner):
                yield thing[:at] + (other,) + thing[at + 1:]


class Lists(unittest.TestCase):
    def test_parts_in_their_order(self):
        self.assertEqual(parts_of(GOOD), ["room", "left", "knob", "slot", "right"])
        self.assertEqual(parts_of(scene(part())), ["p"])
        tree = part("a", parts=(
            part("z", parts=(part("y", parts=(part("x"),)), part("w"))), part("b"), part("v", parts=(part("c"),))))
        self.assertEqual(parts_of(scene(tree)), ["a", "z", "y", "x", "w", "b", "v", "c"])

    def test_wishes_in_their_order(self):
        self.assertEqual(wishes_of(GOOD), [
            ("room", ("tap", "open", 2)), ("room", ("press", "hold", 500)),
            ("left", ("pull", "slide", "across")),
            ("knob", ("turn", "wind")), ("knob", ("spread", "widen")),
            ("right", ("made", "knock", MACHINE))])
        self.assertEqual(wishes_of(scene(part())), [])
        inner = part("q", wishes=(("turn", "c"), ("turn", "a")))
        top = part("p", wishes=(("turn", "z"), ("turn", "b")), parts=(inner, part("r", wishes=(("turn", "d"),))))
        self.assertEqual([(name, wish[1]) for name, wish in wishes_of(scene(top))],
                         [("p", "z"), ("p", "b"), ("q", "c"), ("q", "a"), ("r", "d")])

    def test_they_are_lists_of_the_plain_kinds(self):
        self.assertIs(type(parts_of(GOOD)), list)
        self.assertEqual({type(name) for name in parts_of(GOOD)}, {str})
        self.assertIs(type(wishes_of(GOOD)), list)
        self.assertEqual({type(row) for row in wishes_of(GOOD)}, {tuple})

    def test_they_are_new_each_time(self):
        for told in (parts_of, wishes_of):
            first = told(GOOD)
            kept = list(first)
            self.assertIsNot(told(GOOD), first)
            first.reverse()
            first.append("more")
            self.assertEqual(told(GOOD), kept)

    def test_the_largest_scene(self):
        top = many_labels(180)
        self.assertIs(is_scene(scene(top)), True)
        self.assertEqual(len(parts_of(scene(top))), 30)
        self.assertEqual([wish[1] for _, wish in wishes_of(scene(top))], [name_of(number) for number in range(180)])

    def test_somewhat_beyond_the_limits(self):
        deep = part(name_of(0), wishes=(("turn", "last"),))
        for number in range(1, 40):
            deep = part(name_of(number), parts=(deep,))
        self.assertEqual(parts_of(scene(deep)), [name_of(number) for number in range(39, -1, -1)])
        self.assertEqual(wishes_of(scene(deep)), [(name_of(0), ("turn", "last"))])


if __name__ == "__main__":
    unittest.main()
