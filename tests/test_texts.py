"""Texts: touches, scenes and what was read, written and read again [32]."""

import itertools
import unittest

import draws
from build import Asked, alone, part, scene, state
from strokeguess.errors import NoText
from strokeguess.reader import Reader
from strokeguess.scenes import is_scene
from strokeguess.texts import read_scene, read_told, read_touches, show_scene, show_told, show_touches
from strokeguess.touches import is_touch
from things import JUNK


class Refused(Asked):
    def no_text(self, read, text, row):
        with self.subTest(text=text):
            with self.assertRaises(NoText) as caught:
                read(text)
            self.assertEqual(vars(caught.exception), {"row": row})

    def spoils(self, read, text, ahead=0):
        """Whether what is spoiled in each row of a right text is refused at that row; ahead rows ahead of the text."""
        rows = text.split("\n")
        for at, row in enumerate(rows):
            for other in self.spoiled_rows(row):
                if other != row:
                    self.no_text(read, "\n".join(rows[:at] + [other] + rows[at + 1:]), at + ahead)

    def spoiled_rows(self, row):
        fields = row.split(" ")
        yield from ("", " ", row + " ", " " + row, row.upper(), row + " 0", row + " x", row + "\t", row + "~", "x")
        for at, field in enumerate(fields):
            yield " ".join(fields[:at] + [""] + fields[at:])
            yield " ".join(fields[:at] + ["#"] + fields[at + 1:])
            if field.lstrip("-").isdigit():
                for other in ("0" + field, "+" + field, "-0", "00", field + ".0", "1e1", "0x1", "--1", "-", "1_0",
                              "11111111111", "-11111111111", "\u0661", "\u00b2"):
                    yield " ".join(fields[:at] + [other] + fields[at + 1:])

    def ends(self, read, text):
        """Whether a line feed behind a text, and one ahead of it, are refused."""
        self.no_text(read, text + "\n", text.count("\n") + 1)
        self.no_text(read, "\n" + text, 0)
        self.no_text(read, text.replace("\n", "\r\n") + "\r", 0)

    def no_texts(self, read):
        for thing in JUNK:
            if not isinstance(thing, str):
                self.no_text(read, thing, 0)


class Touches(Refused):
    ROWS = [(0, 0, "down", 0, 0), (10 ** 9, 9, "lost", -10000, 10000), (5, 4, "move", 17, -1), (5, 4, "up", 0, 10)]
    TEXT = "0 0 down 0 0\n1000000000 9 lost -10000 10000\n5 4 move 17 -1\n5 4 up 0 10"

    def test_written_and_read_again(self):
        self.assertEqual(show_touches(self.ROWS), self.TEXT)
        self.assertEqual(read_touches(self.TEXT), self.ROWS)
        self.assertEqual(show_touches(self.ROWS[:1]), "0 0 down 0 0")
        for row in read_touches(self.TEXT):
            self.assertEqual([type(row)] + [type(field) for field in row], [tuple, int, int, str, int, int])

    def test_no_touches(self):
        self.assertEqual(show_touches([]), "")
        self.assertEqual(read_touches(""), [])
        self.no_text(read_touches, "\n", 0)
        self.no_text(read_touches, "\n\n", 0)

    def test_any_other_text(self):
        self.spoils(read_touches, self.TEXT)
        self.ends(read_touches, self.TEXT)
        self.no_text(read_touches, self.TEXT + "\n\n" + self.TEXT, 4)

    def test_the_bounds(self):
        for row in ("0 0 down 0 0", "1000000000 9 up 10000 -10000"):
            fields = row.split(" ")
            self.assertEqual(len(read_touches(row)), 1)
            for at, others in ((0, ("-1", "1000000001", "9999999999")), (1, ("-1", "10")), (3, ("10001", "-10001")),
                               (4, ("10001", "-10001")), (2, ("downs", "Down", "5", "tap"))):
                for other in others:
                    wrong = " ".join(fields[:at] + [other] + fields[at + 1:])
                    self.no_text(read_touches, wrong, 0)
                    self.no_text(read_touches, self.TEXT + "\n" + wrong, 4)

    def test_too_few_and_too_many_fields(self):
        for row in ("0 0 down 0", "0 0 down", "0", "0 0 down 0 0 0", "down 0 0 0 0"):
            self.no_text(read_touches, row, 0)

    def test_the_first_wrong_row(self):
        rows = self.TEXT.split("\n")
        self.no_text(read_touches, "\n".join(rows[:2] + ["x"] + rows[2:] + ["y"]), 2)

    def test_touches_need_not_be_right(self):
        rows = [(9, 0, "up", 0, 0), (3, 0, "up", 0, 0), (3, 1, "lost", 1, 1)]
        self.assertEqual(read_touches(show_touches(rows)), rows)

    def test_what_is_no_text(self):
        self.no_texts(read_touches)

    def test_drawn(self):
        for seed in range(40):
            rows = draws.touches(draws.drawn(seed), 30)
            text = show_touches(rows)
            self.assertEqual(read_touches(text), rows)
            self.assertEqual(text, "\n".join(" ".join(str(field) for field in row) for row in rows))


FULL = scene(
    part("room", ("tap", "once", 1), ("press", "hold", 10000), ("pull", "slide", "across"), ("spread", "wide"),
         ("turn", "round"), ("made", "own", (state(300, up=1, wait="give"), state(out="claim", down=0), state())),
         box=(-10000, 10000, 1, 10000), ear="hear", shelf=("along", -10000, 0), parts=[
             part("a", parts=[part("b", ("tap", "thrice", 3), shelf=("across", 0, 10000), parts=[part("c")])]),
             part("wide", ear="stop")]),
    [("once", "hold"), ("slide", "once")], [("once", "hold"), ("hold", "slide")])
TEXT = """part 0 room -10000 10000 1 10000
ear hear
shelf along -10000 0
wish tap once 1
wish press hold 10000
wish pull slide across
wish spread wide
wish turn round
wish made own
state 300 up 1 wait give
state - out claim down 0
state -
part 1 a 0 0 200 200
part 2 b 0 0 200 200
shelf across 0 10000
wish tap thrice 3
part 3 c 0 0 200 200
part 1 wide 0 0 200 200
ear stop
beside once hold
beside slide once
heed once hold
heed hold slide"""


class Scenes(Refused):
    def refuses(self, rows, row):
        self.no_text(read_scene, "\n".join(rows), row)

    def reads(self, *rows):
        found = read_scene("\n".join(rows))
        self.assertIs(is_scene(found), True)
        self.assertEqual(show_scene(found), "\n".join(rows))
        return found

    def test_written_and_read_again(self):
        self.assertEqual(show_scene(FULL), TEXT)
        self.assertEqual(read_scene(TEXT), FULL)
        self.assertEqual(repr(read_scene(TEXT)), repr(FULL))
        self.assertEqual(self.reads("part 0 a 0 0 1 1"), (("a", (0, 0, 1, 1), None, None, (), ()), (), ()))

    def test_drawn(self):
        for seed in range(150):
            found = draws.scene(draws.drawn(seed))
            self.assertEqual(repr(read_scene(show_scene(found))), repr(found))

    def test_spoiled_rows(self):
        self.spoils(read_scene, TEXT)
        self.ends(read_scene, TEXT)

    def test_more_must_come(self):
        self.refuses([], 0)
        rows = TEXT.split("\n")
        for count in range(1, len(rows)):
            if rows[count].startswith("state") and count < 11:
                self.refuses(rows[:count], count)
            else:
                self.reads(*rows[:count])

    def test_each_row_left_out(self):
        rows = TEXT.split("\n")
        for at, row in enumerate(rows):
            left = rows[:at] + rows[at + 1:]
            try:
                found = read_scene("\n".join(left))
            except NoText as error:
                self.assertEqual(error.row, self.first_wrong(left), row)
                self.assertIn(at, (0, 3, 4, 5, 8, 9, 10, 12, 13))
            else:
                self.assertEqual(show_scene(found), "\n".join(left))
                self.assertNotIn(at, (0, 3, 4, 5, 8, 12, 13))

    def first_wrong(self, rows):
        """The first row up to which no text of a scene begins, by trying ends that make one of what there is."""
        ends = [[]] + [["state -"] * count for count in range(1, 9)]
        for count in range(1, len(rows) + 1):
            for end in ends:
                try:
                    read_scene("\n".join(rows[:count] + end))
                    break
                except NoText:
                    pass
            else:
                return count - 1
        return len(rows)

    def test_each_row_twice(self):
        rows = TEXT.split("\n")
        for at, row in enumerate(rows):
            twice = rows[:at + 1] + rows[at:]
            if row.startswith("state -"):
                # One state more, to which nothing comes.
                self.reads(*twice)
            elif row.startswith("state"):
                self.reads(*twice)
            else:
                self.refuses(twice, at + 1)

    def test_rows_exchanged(self):
        self.refuses(["ear hear", "part 0 a 0 0 1 1"], 0)
        first = "part 0 a 0 0 1 1"
        for rows in (["shelf across 0 0", "ear hear"], ["wish tap t 1", "ear hear"], ["wish tap t 1", "shelf across 0 0"],
                     ["wish made m", "state -", "ear hear"], ["wish made m", "state -", "shelf across 0 0"],
                     ["part 1 b 0 0 1 1", "part 0 c 0 0 1 1"]):
            self.refuses([first, *rows], len(rows))
        labels = [first, "wish tap t 1", "wish tap u 1"]
        for rows in (["heed t u", "beside t u"], ["beside t u", "wish tap v 1"], ["beside t u", "part 1 b 0 0 1 1"],
                     ["heed t u", "wish tap v 1"], ["heed t u", "part 1 b 0 0 1 1"], ["heed t u", "ear hear"],
                     ["beside t u", "state -"]):
            self.refuses(labels + rows, len(labels) + 1)

    def test_states_stand_behind_a_made_wish_alone(self):
        first = "part 0 a 0 0 1 1"
        for rows in (["state -"], ["wish tap t 1", "state -"], ["ear hear", "state -"], ["shelf across 0 0", "state -"],
                     ["wish made m", "state -", "wish tap t 1", "state -"], ["wish made m", "wish tap t 1"],
                     ["wish made m", "part 1 b 0 0 1 1"], ["wish made m", "beside m m"]):
            self.refuses([first, *rows], len(rows))

    def test_depths(self):
        deep = [f"part {depth} {'abcdef'[depth]} 0 0 1 1" for depth in range(6)]
        self.reads(*deep)
        self.reads(*deep, "part 5 g 0 0 1 1", "part 3 h 0 0 1 1", "part 4 i 0 0 1 1", "part 1 j 0 0 1 1")
        self.refuses([*deep, "part 6 g 0 0 1 1"], 6)
        for depth in ("0", "-1", "2", "7", "x", "01"):
            self.refuses([deep[0], f"part {depth} g 0 0 1 1"], 1)
        for depth in ("1", "-1", "x"):
            self.refuses([f"part {depth} a 0 0 1 1"], 0)
        self.refuses([*deep[:3], "part 4 g 0 0 1 1"], 3)

    def test_thirty_parts_and_thirty_one(self):
        names = ["".join(pair) for pair in itertools.product("abcdef", repeat=2)]
        rows = ["part 0 z 0 0 1 1"] + [f"part 1 {name} 0 0 1 1" for name in names]
        self.reads(*rows[:30])
        self.refuses(rows[:31], 30)
        self.refuses(rows, 30)
        self.refuses(rows[:30] + ["ear no"] + rows[30:], 30)

    def test_six_wishes_and_seven(self):
        for kind in ("tap {} 1", "made {}", "spread {}"):
            rows = ["part 0 z 0 0 1 1"]
            for at in range(6):
                rows.append(f"wish {kind.format('abcdefg'[at])}")
                rows += ["state -"] * (kind == "made {}")
            self.reads(*rows)
            for more in ("wish tap g 1", "wish made g"):
                self.refuses([*rows, more], len(rows))
            self.reads(*rows, "part 1 y 0 0 1 1", "wish tap g 1")

    def test_a_name_and_a_label_told_twice(self):
        self.refuses(["part 0 a 0 0 1 1", "part 1 b 0 0 1 1", "part 1 a 0 0 1 1"], 2)
        self.refuses(["part 0 a 0 0 1 1", "part 1 a 0 0 1 1"], 1)
        self.refuses(["part 0 a 0 0 1 1", "wish tap t 1", "part 1 b 0 0 1 1", "wish spread t"], 3)
        self.refuses(["part 0 a 0 0 1 1", "wish tap t 1", "wish made t", "state -"], 2)
        self.reads("part 0 a 0 0 1 1", "wish tap a 1", "part 1 b 0 0 1 1", "wish tap b 1")

    def test_parts_by_their_bounds(self):
        self.reads("part 0 abcdefgh 10000 -10000 1 10000")
        for row in ("part 0 abcdefghi 0 0 1 1", "part 0 A 0 0 1 1", "part 0 5 0 0 1 1", "part 0 a 10001 0 1 1",
                    "part 0 a 0 -10001 1 1", "part 0 a 0 0 0 1", "part 0 a 0 0 1 10001", "part 0 a 0 0 1", "part 0 a",
                    "part", "part 0 a 0 0 1 1 1", "parts 0 a 0 0 1 1", "5 0 a 0 0 1 1", "part 0 a 0 0 1 x"):
            self.refuses([row], 0)

    def test_ears_and_shelves(self):
        first = "part 0 a 0 0 1 1"
        for row in ("ear", "ear None", "ear none", "ear 5", "ear hear stop", "ear -", "ear ", "shelf", "shelf across",
                    "shelf across 0", "shelf any 0 0", "shelf along 1 5", "shelf along -1 -1", "shelf along -10001 0",
                    "shelf along 0 10001", "shelf along 0 0 0", "shelf None", "shelf along - 0"):
            self.refuses([first, row], 1)
        for row in ("ear hear", "ear stop", "shelf across -10000 10000", "shelf along 0 0"):
            self.reads(first, row)

    def test_wishes(self):
        first = "part 0 a 0 0 1 1"
        for row in ("wish", "wish tap", "wish tap t", "wish tap t 0", "wish tap t 4", "wish tap t 1 1", "wish tap 5 1",
                    "wish press t 0", "wish press t 10001", "wish press t", "wish pull t", "wish pull t up", "wish pull t 5",
                    "wish spread", "wish spread t 1", "wish turn t any", "wish made", "wish made t 5", "wish made t state",
                    "wish hold t", "wish 5 t", "wish tap t any", "wish made A", "wish made abcdefghi"):
            self.refuses([first, row], 1)
        for row in ("wish press t 1", "wish press t 10000", "wish pull t any", "wish turn t"):
            self.reads(first, row)

    def test_machines(self):
        first = ["part 0 a 0 0 1 1", "wish made m"]
        for row in ("state", "state -  ", "state 0 wait give", "state 10001 wait give", "state 5", "state 5 up 0",
                    "state - wait give", "state - up", "state - up 0 up 0", "state - up 8", "state - up -1",
                    "state - up 99999999", "state - lost 0", "state - up 0 down", "state x", "state None", "state - up x",
                    "state 5 wait 0", "state - 5 0", "state - up 00", "state 5 wait give wait claim"):
            self.refuses([*first, row], 2)
        self.reads(*first, "state 10000 wait claim up give down 0 out 0")
        self.reads(*first, "state - out 7", *["state -"] * 7)
        self.reads(*first, *["state -"] * 8)
        self.refuses([*first, *["state -"] * 9], 10)

    def test_states_that_lack(self):
        first = ["part 0 a 0 0 1 1", "wish made m"]
        self.refuses(first, 2)
        for goal in range(1, 8):
            for count in range(1, goal + 1):
                rows = [*first, f"state - up {goal}", *["state -"] * (count - 1)]
                self.refuses(rows, len(rows))
                for more in ("wish tap t 1", "part 1 b 0 0 1 1", "beside m t", "", "ear hear"):
                    self.refuses([*rows, more], len(rows))
                    self.refuses([*rows, more, "state -"], len(rows))
            self.reads(*first, f"state - up {goal}", *["state -"] * goal)

    def test_a_ring_by_waits(self):
        first = ["part 0 a 0 0 1 1", "wish made m"]
        self.refuses([*first, "state 1 wait 0"], 2)
        self.refuses([*first, "state 1 wait 1", "state 1 wait 0"], 3)
        self.refuses([*first, "state 1 wait 2", "state 1 wait 0", "state 1 wait 1"], 4)
        self.refuses([*first, "state 1 wait claim", "state 1 wait 3", "state -", "state 5 wait 1"], 5)
        self.reads(*first, "state 1 wait 2", "state 1 wait 0", "state 1 wait claim")

    def test_pairs(self):
        labels = ["part 0 a 0 0 1 1", "wish tap t 1", "wish tap u 1", "wish tap v 1"]
        for word in ("beside", "heed"):
            for row in (f"{word} t x", f"{word} x t", f"{word} t t", f"{word} t", word, f"{word} t u v", f"{word} a t",
                        f"{word} 5 t"):
                self.refuses([*labels, row], 4)
                self.refuses([*labels, f"{word} u v", row], 5)
            self.refuses([*labels, f"{word} t u", f"{word} t u"], 5)
            self.refuses(labels[:2] + [f"{word} t u"], 2)
        self.refuses([*labels, "beside t u", "beside u t"], 5)
        self.refuses([*labels, "beside t u", "beside u v", "beside t v", "beside v t"], 7)
        self.reads(*labels, "beside t u", "beside v u", "heed t u", "heed v u")

    def test_heeds_that_come_back_to_themselves(self):
        labels = ["part 0 a 0 0 1 1", "wish tap t 1", "wish tap u 1", "wish tap v 1"]
        self.refuses([*labels, "heed t u", "heed u t"], 5)
        self.refuses([*labels, "heed t u", "heed u v", "heed v t"], 6)
        self.refuses([*labels, "heed t u", "heed u v", "heed t v", "heed v u", "x"], 7)
        self.reads(*labels, "heed t u", "heed u v", "heed t v")

    def test_all_bounds_together(self):
        names = ["".join(sign) for sign in itertools.product("abcdef", repeat=3)]
        machine = tuple(state(10000, wait=at + 1 if at < 7 else "claim", up=7, out=0, down="give") for at in range(8))
        parts = [part(name, *[("made", name + sign, machine) for sign in "uvwxyz"]) for name in names[:29]]
        first = part("first", *[("made", "first" + sign, machine) for sign in "uvwxyz"], parts=parts)
        labels = [wish[1] for one in [first, *parts] for wish in one[4]]
        heeds = list(zip(labels, labels[1:]))
        found = scene(first, heeds, heeds)
        text = show_scene(found)
        self.assertEqual(read_scene(text), found)
        self.no_text(read_scene, f"{text}\nheed {labels[-1]} {labels[0]}", text.count("\n") + 1)

    def test_what_is_no_text(self):
        self.no_texts(read_scene)


class Told(Refused):
    ROWS = [
        (0, "t", 0, "tapped", (-5, 6)), (10 ** 9, "abcdefgh", 9999999999, "began", ()), (3, "q", 1, "moved", (5, 0)),
        (3, "s", 1, "moved", (1, -2, 3, -4)), (4, "q", 12, "ended", ()), (4, "q", 2, "flung", (0, 51)), (5, "q", 2, "off", ()),
        (5, "q", 2, "shelf", ("room", -9999999999, 9999999999)), (5, "q", 2, "over", (0, 1)), (6, "q", 2, "guess", ()),
        (1, "q", 2, "back", ()),
    ]
    TEXT = """0 t 0 tapped -5 6
1000000000 abcdefgh 9999999999 began
3 q 1 moved 5 0
3 s 1 moved 1 -2 3 -4
4 q 12 ended
4 q 2 flung 0 51
5 q 2 off
5 q 2 shelf room -9999999999 9999999999
5 q 2 over 0 1
6 q 2 guess
1 q 2 back"""

    def test_written_and_read_again(self):
        self.assertEqual(show_told(self.ROWS), self.TEXT)
        self.assertEqual(repr(read_told(self.TEXT)), repr(self.ROWS))

    def test_nothing_read(self):
        self.assertEqual(show_told([]), "")
        self.assertEqual(read_told(""), [])
        self.no_text(read_told, "\n", 0)

    def test_any_other_text(self):
        rows = self.TEXT.split("\n")
        for at, row in enumerate(rows):
            for other in self.spoiled_rows(row):
                # A moved with one thing more or less is wrong, too, as it has two or four.
                self.no_text(read_told, "\n".join(rows[:at] + [other] + rows[at + 1:]), at)
        self.ends(read_told, self.TEXT)

    def test_as_many_as_its_word_has(self):
        many = {"tapped": (2,), "began": (0,), "moved": (2, 4), "ended": (0,), "flung": (2,), "off": (0,), "over": (2,),
                "guess": (0,), "back": (0,), "shelf": ()}
        for word, wanted in many.items():
            for count in range(6):
                row = " ".join(["1", "a", "2", word] + ["7"] * count)
                if count in wanted:
                    self.assertEqual(read_told(row), [(1, "a", 2, word, (7,) * count)])
                else:
                    self.no_text(read_told, row, 0)
        for row in ("1 a 2 shelf", "1 a 2 shelf p", "1 a 2 shelf p 1", "1 a 2 shelf p 1 1 1", "1 a 2 shelf 1 1 p",
                    "1 a 2 shelf p q 1", "1 a 2 shelf 1 1 1", "1 a 2 shelf P 1 1", "1 a 2 tapped x 1", "1 a 2 over p 1"):
            self.no_text(read_told, row, 0)

    def test_moments_labels_strokes_and_words(self):
        for row in ("-1 a 0 began", "1000000001 a 0 began", "x a 0 began", "1 A 0 began", "1 abcdefghi 0 began",
                    "1 5 0 began", "1 a -1 began", "1 a x began", "1 a 10000000000 began", "1 a 0 begun", "1 a 0 5",
                    "1 a 0 won", "1 a 0", "1 a", "1", "1 a 0 Began"):
            self.no_text(read_told, row, 0)
        for number in ("10000000000", "-10000000000", "00", "-0", "+1"):
            self.no_text(read_told, f"1 a 0 over {number} 1", 0)
            self.no_text(read_told, f"1 a 0 shelf p 1 {number}", 0)

    def test_what_is_no_text(self):
        self.no_texts(read_told)

    def test_drawn(self):
        for seed in range(40):
            draw = draws.drawn(seed)
            made = Reader(draws.scene(draw), guessing=True)
            for row in draws.touches(draw, 40):
                made.put(row)
            text = show_told(made.told())
            self.assertEqual(repr(read_told(text)), repr(made.told()))

    def test_nothing_handed_in_is_changed(self):
        rows = list(self.ROWS)
        show_told(rows)
        self.assertEqual(rows, self.ROWS)
        read_told(self.TEXT).clear()
        self.assertEqual(read_told(self.TEXT), self.ROWS)


class Touch(Refused):
    def test_a_touch_by_itself_is_enough(self):
        for row in itertools.product((0, 7), (0, 9), ("down", "move", "up", "lost"), (-10000, 0), (10000,)):
            self.assertTrue(is_touch(row))
            self.assertEqual(read_touches(show_touches([row])), [row])

    def test_scenes_of_one_wish_of_each_kind(self):
        for seed in range(60):
            found = alone(draws.wish(draws.drawn(seed), "w"))
            self.assertEqual(read_scene(show_scene(found)), found)


if __name__ == "__main__":
    unittest.main()
