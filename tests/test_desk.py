"""The desk: what a reader does, deeds that are cut back, watchers, and desks written and read again [33]."""

import unittest

import draws
from build import Asked, alone, papers, part, scene, state
from strokeguess.desk import Desk, read_desk
from strokeguess.errors import IsDown, Late, NoCount, NoHope, NoPart, NoText, NotDown, NoTouch, NoWatch
from strokeguess.reader import Reader
from strokeguess.scenes import parts_of, wishes_of
from strokeguess.texts import show_scene
from strokeguess.touches import is_touch
from test_texts import Refused
from things import JUNK, SIXTY

FOUND = scene(
    part("all", ("spread", "s"), shelf=("across", -50, 50), ear="hear", parts=[
        part("a", ("tap", "t", 1), ("tap", "d", 2), box=(0, 0, 90, 90), ear="stop"),
        part("b", ("pull", "q", "any"), ("press", "p", 100), box=(100, 0, 90, 90), shelf=("along", -5, 5), parts=[
            part("c", ("made", "m", (state(up=1), state(50, wait="claim"))))])]),
    [("p", "q")], [("t", "d"), ("q", "s")])
HEAD = show_scene(FOUND)
DEEDS = [(0, 0, "down", 5, 5), (10, 0, "up", 5, 5), 400, (410, 1, "down", 150, 50), (520, 1, "move", 180, 60), ("out", "c"),
         (530, 2, "down", 150, 50), 531, ("out", "b"), (540, 1, "up", 180, 60), ("back",), (550, 3, "down", 150, 50),
         (560, 3, "lost", 0, 0), ("back",), (10 ** 6, 2, "up", 150, 50)]
ROWS = ["0 0 down 5 5", "10 0 up 5 5", "go 400", "410 1 down 150 50", "520 1 move 180 60", "out c", "530 2 down 150 50",
        "go 531", "out b", "540 1 up 180 60", "back", "550 3 down 150 50", "560 3 lost 0 0", "back", "1000000 2 up 150 50"]


def do(made, deed):
    """Do a deed by a desk or a reader."""
    if isinstance(deed, int):
        return made.go(deed)
    if len(deed) == 5:
        return made.put(deed)
    return made.out(deed[1]) if deed[0] == "out" else made.back()


def done(deeds, kind=Desk, found=FOUND, **by):
    made = kind(found, **by)
    for deed in deeds:
        do(made, deed)
    return made


def stand(made, strokes=8):
    """All that a desk, or a reader, tells of itself."""
    hows = []
    for stroke in range(-1, strokes):
        for label in "stdqpm":
            try:
                hows.append((stroke, label, made.how(stroke, label)))
            except NoHope:
                pass
    return (made.told(), made.places(), made.shown(), made.heard(), hows)


class Told(Asked):
    def test_it_tells_what_a_reader_tells(self):
        for by in ({}, {"guessing": True}, {"slop": 0, "gap": 5}, {"slop": 1000, "gap": 10000, "guessing": True}):
            one, other = Desk(FOUND, **by), Reader(FOUND, **by)
            for deed in DEEDS:
                self.assertEqual(do(one, deed), do(other, deed))
                self.assertEqual(stand(one), stand(other))
        self.assertIn("off", [row[3] for row in done(DEEDS).told()])

    def test_slop_gap_and_guessing_by_name(self):
        with self.assertRaises(TypeError):
            Desk(FOUND, 18)

    def test_it_refuses_what_a_reader_refuses(self):
        one, other = done(DEEDS[:5]), done(DEEDS[:5], Reader)
        before, many = stand(one), one.many()
        things = JUNK + [(519, 1, "move", 0, 0), (520, 1, "down", 0, 0), (520, 4, "up", 0, 0), (520, 10, "down", 0, 0), 519,
                         -1, 10 ** 9 + 1, "zz"]
        for thing in things:
            for name in ("put", "go", "out"):
                if name == "out" and thing in ("a", "b", "c") or name == "go" and self.may_go(thing):
                    continue
                told = [self.refusal(lambda: getattr(made, name)(thing)) for made in (one, other)]
                self.assertEqual(told[0], told[1], (name, thing))
                self.assertIsNotNone(told[0], (name, thing))
        self.assertEqual(self.refusal(one.back), (NoPart, {"name": "back"}))
        self.assertEqual(self.refusal(lambda: one.how(0, "q")), (NoHope, {"label": "q"}))
        self.assertEqual((stand(one), one.many()), (before, many))

    def may_go(self, thing):
        return type(thing) is int and 520 <= thing <= 10 ** 9

    def refusal(self, call):
        try:
            call()
        except (NoTouch, Late, IsDown, NotDown, NoPart, NoHope) as error:
            return (type(error), vars(error))
        return None

    def test_what_is_told_is_the_askers_own(self):
        made = done(DEEDS)
        made.watch("w", ["t"])
        before = stand(made)
        for ask in (made.told, made.places, made.shown, made.heard, lambda: made.watched("w")):
            ask().clear()
        self.assertEqual(stand(made), before)

    def test_what_returns_nothing(self):
        made = done(DEEDS[:6])
        self.assertEqual([made.back(), made.cut(3), made.watch("w", []), made.drop("w")], [None] * 4)


class Several(Asked):
    def test_all_are_told_as_one_list(self):
        rows = [deed for deed in DEEDS if not isinstance(deed, tuple) or len(deed) == 5]
        one, other = Desk(FOUND, guessing=True), Reader(FOUND, guessing=True)
        told = one.several(rows)
        wanted = [row for deed in rows for row in do(other, deed)]
        self.assertEqual(told, wanted)
        self.assertGreater(len(told), 5)
        self.assertEqual([stand(one), one.many()], [stand(other), len(rows)])

    def test_none_at_all(self):
        made = done(DEEDS[:3])
        self.assertEqual([made.several([]), made.many()], [[], 3])

    def test_each_is_a_deed_by_itself(self):
        made = Desk(FOUND)
        made.several(DEEDS[:5])
        for count in range(5, -1, -1):
            made.cut(count)
            self.assertEqual(stand(made), stand(done(DEEDS[:count])))

    def test_none_is_done_where_one_is_refused(self):
        good = [(410, 1, "down", 150, 50), 500, (520, 1, "move", 180, 60)]
        for wrong, error, fields in (
                ("x", NoTouch, {}), (None, NoTouch, {}), (True, NoTouch, {}), (-1, NoTouch, {}), (10 ** 9 + 1, NoTouch, {}),
                ([520, 1, "up", 0, 0], NoTouch, {}), (519, Late, {"last": 520}), ((519, 1, "up", 0, 0), Late, {"last": 520}),
                ((520, 1, "down", 0, 0), IsDown, {"finger": 1}), ((520, 2, "up", 0, 0), NotDown, {"finger": 2}),
                ((520, 0, "up", 0, 0), NotDown, {"finger": 0})):
            for behind in ([], ["y"], [600]):
                made = done(DEEDS[:3])
                before = stand(made)
                with self.assertRaises(error) as caught:
                    made.several(good + [wrong] + behind)
                self.assertEqual(vars(caught.exception), fields)
                self.assertEqual([stand(made), made.many()], [before, 3])
                self.assertEqual(made.several(good), done(DEEDS[:3]).several(good))

    def test_late_names_a_moment_of_the_list(self):
        made = Desk(FOUND)
        with self.assertRaises(Late) as caught:
            made.several([700, 650])
        self.assertEqual([caught.exception.last, made.many()], [700, 0])
        made.go(600)

    def test_fingers_of_the_list_count(self):
        made = Desk(FOUND)
        made.several([(0, 0, "down", 5, 5), (1, 0, "up", 5, 5), (2, 0, "down", 5, 5), (3, 0, "lost", 5, 5)])
        with self.assertRaises(NotDown):
            made.several([(5, 0, "down", 5, 5), (6, 0, "lost", 5, 5), (7, 0, "move", 5, 5)])
        with self.assertRaises(IsDown):
            made.several([(5, 0, "down", 5, 5), (6, 0, "down", 5, 5)])
        self.assertEqual(made.many(), 4)

    def test_fingers_that_are_down_ahead_of_the_list_count(self):
        made = Desk(FOUND)
        made.put((0, 4, "down", 5, 5))
        with self.assertRaises(IsDown) as caught:
            made.several([50, (60, 4, "down", 5, 5)])
        self.assertEqual([caught.exception.finger, made.many()], [4, 1])
        made.several([50, (60, 4, "move", 6, 5), (70, 4, "up", 6, 5)])
        self.assertEqual(made.many(), 4)
        # What a list that was refused told of fingers is as never told.
        with self.assertRaises(NotDown):
            made.several([(80, 4, "down", 5, 5), (90, 4, "up", 5, 5), (90, 4, "up", 5, 5)])
        with self.assertRaises(Late) as caught:
            made.several([69, 80])
        self.assertEqual([caught.exception.last, made.many()], [70, 4])

    def test_what_is_handed_in_stays_and_is_copied(self):
        made = Desk(FOUND)
        rows = [(0, 0, "down", 5, 5), 9]
        made.several(rows)
        self.assertEqual(rows, [(0, 0, "down", 5, 5), 9])
        rows.clear()
        self.assertEqual([made.many(), made.written().split("\n")[-1]], [2, "go 9"])


class Cuts(Asked):
    def test_to_each_count(self):
        for guessing in (False, True):
            for count in range(len(DEEDS) + 1):
                made = done(DEEDS, guessing=guessing)
                self.assertEqual(made.many(), len(DEEDS))
                made.cut(count)
                wanted = done(DEEDS[:count], guessing=guessing)
                self.assertEqual([made.many(), stand(made), made.written()], [count, stand(wanted), wanted.written()])
                # It goes on as one that was told only these.
                for deed in DEEDS[count:]:
                    self.assertEqual(do(made, deed), do(wanted, deed))
                self.assertEqual(stand(made), stand(done(DEEDS, guessing=guessing)))

    def test_told_others_from_there(self):
        made = done(DEEDS)
        made.cut(1)
        self.assertEqual(made.put((10, 0, "lost", 5, 5)), [])
        self.assertEqual(made.how(0, "t"), ("out", 10, "lost"))
        made.cut(1)
        self.assertEqual(made.how(0, "t"), ("stands",))
        self.assertEqual(made.go(5), [])
        self.assertEqual(made.many(), 2)

    def test_no_count(self):
        made = done(DEEDS[:5])
        before = stand(made)
        for thing in [-1, 6, True, False, None, "3", (), [3], SIXTY, -SIXTY] + [
                junk for junk in JUNK if type(junk) is not int or not 0 <= junk <= 5]:
            with self.assertRaises(NoCount) as caught:
                made.cut(thing)
            self.assertEqual(vars(caught.exception), {"most": 5})
            self.assertEqual([made.many(), stand(made)], [5, before])
        made.cut(2)
        with self.assertRaises(NoCount) as caught:
            made.cut(3)
        self.assertEqual(caught.exception.most, 2)

    def test_refused_deeds_dont_count(self):
        made = done(DEEDS[:2])
        for call in (lambda: made.put("x"), lambda: made.go(0), lambda: made.out("all"), made.back,
                     lambda: made.several([1])):
            with self.assertRaises((NoTouch, Late, NoPart)):
                call()
        self.assertEqual(made.many(), 2)


class Watchers(Asked):
    def test_what_is_told_of_these_labels_from_then_on(self):
        made = done(DEEDS[:1])
        made.watch("w", ["t", "p"])
        made.watch("none", [])
        made.watch("other", ["zz", "q", "q"])
        for deed in DEEDS[1:]:
            do(made, deed)
        for word, labels in (("w", "tp"), ("none", ""), ("other", "q")):
            self.assertEqual(made.watched(word), [row for row in made.told() if row[1] in labels])
        self.assertGreater(len(made.watched("w")), 2)
        made.watch("late", ["t", "p"])
        self.assertEqual(made.watched("late"), [])

    def test_guesses_too(self):
        made = Desk(FOUND, guessing=True)
        made.watch("w", ["t"])
        for deed in DEEDS[:3]:
            do(made, deed)
        self.assertEqual([row[3] for row in made.watched("w")], ["guess", "tapped"])

    def test_behind_cuts(self):
        made = done(DEEDS[:3])
        known = made.told()
        self.assertEqual(len(known), 1)
        made.watch("w", ["t"])
        # Cut to where less was told than where it was put: it hears from that place on all the same.
        made.cut(0)
        self.assertEqual(made.watched("w"), [])
        for deed in DEEDS[:3]:
            do(made, deed)
        self.assertEqual([made.told(), made.watched("w")], [known, []])
        made.put((500, 0, "down", 5, 5))
        made.put((510, 0, "up", 5, 5))
        made.go(900)
        self.assertEqual(made.watched("w"), [(810, "t", 1, "tapped", (5, 5))])
        made.cut(4)
        self.assertEqual(made.watched("w"), [])

    def test_a_cut_takes_back_what_it_heard(self):
        made = Desk(FOUND)
        made.watch("w", ["t"])
        for deed in DEEDS[:3]:
            do(made, deed)
        self.assertEqual(len(made.watched("w")), 1)
        made.cut(2)
        self.assertEqual(made.watched("w"), [])
        made.go(320)
        self.assertEqual(made.watched("w"), [(310, "t", 0, "tapped", (5, 5))])

    def test_labels_are_copied(self):
        made, labels = Desk(FOUND), ["t"]
        made.watch("w", labels)
        labels.clear()
        for deed in DEEDS[:3]:
            do(made, deed)
        self.assertEqual(len(made.watched("w")), 1)

    def test_no_watch(self):
        made = Desk(FOUND)
        made.watch("w", ["t"])
        for call in (lambda: made.watch("w", ["p"]), lambda: made.watched("v"), lambda: made.drop("v")):
            with self.assertRaises(NoWatch) as caught:
                call()
            self.assertIn(vars(caught.exception), ({"word": "w"}, {"word": "v"}))
        with self.assertRaises(NoWatch) as caught:
            made.watch("w", [])
        self.assertEqual(caught.exception.word, "w")
        # A refused one changes nothing.
        for deed in DEEDS[:3]:
            do(made, deed)
        self.assertEqual(len(made.watched("w")), 1)

    def test_dropped_and_put_again(self):
        made = done(DEEDS[:3])
        made.watch("w", ["t"])
        made.drop("w")
        for call in (lambda: made.watched("w"), lambda: made.drop("w")):
            with self.assertRaises(NoWatch):
                call()
        made.watch("w", ["q"])
        for deed in DEEDS[3:]:
            do(made, deed)
        self.assertEqual(made.watched("w"), [row for row in made.told() if row[1] == "q"])

    def test_they_are_no_deeds(self):
        made = done(DEEDS[:3])
        text = made.written()
        made.watch("w", ["t"])
        self.assertEqual([made.many(), made.written()], [3, text])
        made.drop("w")
        self.assertEqual([made.many(), made.written()], [3, text])


class Written(Refused):
    def test_the_scene_a_row_without_signs_how_it_is_read_and_the_deeds(self):
        self.assertEqual(done(DEEDS).written(), "\n".join([HEAD, "", "slop 18 gap 300", *ROWS]))
        self.assertEqual(Desk(FOUND, slop=0, gap=10000, guessing=True).written(), HEAD + "\n\nslop 0 gap 10000 guessing")

    def test_behind_cuts(self):
        made = done(DEEDS)
        made.cut(2)
        made.go(50)
        self.assertEqual(made.written(), "\n".join([HEAD, "", "slop 18 gap 300", *ROWS[:2], "go 50"]))

    def test_read_again(self):
        for by in ({}, {"guessing": True}, {"slop": 1000, "gap": 1}, {"slop": 0, "gap": 10000, "guessing": True}):
            for count in range(len(DEEDS) + 1):
                made = done(DEEDS[:count], **by)
                other = read_desk(made.written())
                self.assertIs(type(other), Desk)
                self.assertEqual([stand(other), other.many(), other.written()], [stand(made), count, made.written()])
                for deed in DEEDS[count:]:
                    self.assertEqual(do(made, deed), do(other, deed))
                other.cut(0)
                self.assertEqual(stand(other), stand(Desk(FOUND)))

    def test_without_watchers(self):
        made = done(DEEDS)
        made.watch("w", ["t"])
        with self.assertRaises(NoWatch):
            read_desk(made.written()).watched("w")

    def test_more_must_come(self):
        rows = [*HEAD.split("\n"), ""]
        for count in range(len(rows) + 1):
            self.no_text(read_desk, "\n".join(rows[:count]), count)
        self.no_text(read_desk, "", 0)
        self.no_text(read_desk, HEAD, HEAD.count("\n") + 1)
        self.no_text(read_desk, HEAD + "\n", HEAD.count("\n") + 2)

    def test_a_wrong_row_of_a_scene_without_a_row_behind_it(self):
        self.no_text(read_desk, "part 0 a 0 0 1 1\nx\nwish tap t 1", 1)
        self.no_text(read_desk, "part 0 a 0 0 1 1\nslop 18 gap 300\ngo 5", 1)
        self.no_text(read_desk, "slop 18 gap 300", 0)
        self.no_text(read_desk, HEAD + "\nslop 18 gap 300", HEAD.count("\n") + 1)

    def test_a_scene_that_lacks_rows_at_the_row_without_signs(self):
        self.no_text(read_desk, "\n\nslop 18 gap 300", 0)
        self.no_text(read_desk, "\nslop 18 gap 300", 0)
        self.no_text(read_desk, "part 0 a 0 0 1 1\nwish made m\n\nslop 18 gap 300", 2)
        self.no_text(read_desk, "part 0 a 0 0 1 1\nwish made m\nstate - up 1\n\nslop 18 gap 300", 3)

    def test_a_wrong_row_of_the_scene(self):
        rows = HEAD.split("\n")
        for at in range(len(rows)):
            for other in self.spoiled_rows(rows[at]):
                text = "\n".join(rows[:at] + [other] + rows[at + 1:] + ["", "slop 18 gap 300"])
                # A row without signs ends the scene, and behind one that is whole it is the row behind it that is wrong.
                whole = other == "" and at > 0 and not rows[at].startswith("state")
                self.no_text(read_desk, text, at + 1 if whole else at)

    def test_how_it_is_read(self):
        ahead = HEAD.count("\n") + 2
        for row in ("", " ", "slop 18", "slop 18 gap", "gap 300 slop 18", "slop -1 gap 300", "slop 1001 gap 300",
                    "slop 18 gap 0", "slop 18 gap 10001", "slop 18 gap 300 guess", "slop 18 gap 300 guessing ",
                    "slop 18 gap 300 guessing guessing", "slop x gap 300", "slop 018 gap 300", "slop 18 gap 300 ",
                    "slop  18 gap 300", "Slop 18 gap 300", "slop 18 300 gap", "18 slop 300 gap", "slop 18 gap 300 5",
                    "slop -0 gap 300", "slop 18 gap x", ROWS[0]):
            self.no_text(read_desk, f"{HEAD}\n\n{row}", ahead)
            self.no_text(read_desk, f"{HEAD}\n\n{row}\n{ROWS[0]}", ahead)
        for row in ("slop 0 gap 1", "slop 1000 gap 10000 guessing"):
            self.assertEqual(read_desk(f"{HEAD}\n\n{row}").written(), f"{HEAD}\n\n{row}")

    def test_wrong_deeds(self):
        ahead = HEAD.count("\n") + 3
        for at, row in enumerate(ROWS):
            for other in [*self.spoiled_rows(row), "go", "go x", "go -1", "go 1000000001", "go 5 5", "out", "out x", "out all",
                          "out 5", "out b c", "back back", "stay", "slop 18 gap 300", "0 0 down 5", "0 10 down 0 0",
                          "part 0 a 0 0 1 1", "Back", "OUT b"]:
                text = "\n".join([HEAD, "", "slop 18 gap 300", *ROWS[:at], other, *ROWS[at + 1:]])
                self.no_text(read_desk, text, ahead + at)

    def test_deeds_that_are_refused_where_they_stand(self):
        ahead = HEAD.count("\n") + 3
        begin = [HEAD, "", "slop 18 gap 300"]
        for rows in (["back"], ["out b", "out b"], ["out b", "out c"], ["out b", "back", "back"], ["0 0 up 0 0"],
                     ["0 0 down 0 0", "0 0 down 0 0"], ["go 5", "go 4"], ["go 5", "4 0 down 0 0"],
                     ["5 0 down 0 0", "go 4"], ["5 0 down 0 0", "4 0 up 0 0"], ["5 0 down 0 0", "5 0 lost 0 0", "5 0 up 0 0"]):
            self.no_text(read_desk, "\n".join(begin + rows), ahead + len(rows) - 1)
            self.no_text(read_desk, "\n".join(begin + rows + ["go 9", "x"]), ahead + len(rows) - 1)
            self.assertEqual(read_desk("\n".join(begin + rows[:-1])).many(), len(rows) - 1)

    def test_a_line_feed_at_the_end(self):
        text = done(DEEDS).written()
        self.no_text(read_desk, text + "\n", text.count("\n") + 1)
        self.no_text(read_desk, f"{HEAD}\n\nslop 18 gap 300\n", HEAD.count("\n") + 3)

    def test_what_is_no_text(self):
        self.no_texts(read_desk)


class Drawn(Asked):
    def test_drawn_desks(self):
        for seed in range(30):
            draw = draws.drawn(seed)
            found = draws.scene(draw)
            by = draw.choice([{}, {"guessing": True}, {"slop": 3, "gap": 77}])
            deeds, outs = [], []
            for row in draws.touches(draw, 25):
                deeds.append(row)
                if draw.random() < 0.2:
                    deeds.append(row[0])
                name = draw.choice(parts_of(found)[1:] or [None])
                if draw.random() < 0.1 and name and self.is_free(found, outs, name):
                    deeds.append(("out", name))
                    outs.append(name)
                elif outs and draw.random() < 0.2:
                    deeds.append(("back",))
                    outs.pop()
            made, other = done(deeds, Desk, found, **by), done(deeds, Reader, found, **by)
            self.assertEqual(made.told(), other.told())
            again = read_desk(made.written())
            self.assertEqual([again.told(), again.heard(), again.places(), again.shown()],
                             [made.told(), made.heard(), made.places(), made.shown()])
            count = draw.randint(0, len(deeds))
            made.cut(count)
            wanted = done(deeds[:count], Reader, found, **by)
            self.assertEqual([made.told(), made.heard(), made.places(), made.shown()],
                             [wanted.told(), wanted.heard(), wanted.places(), wanted.shown()])
            for stroke, sheet in enumerate(papers(wanted)):
                self.assertEqual([(label, made.how(stroke, label)) for label, _ in sheet], sheet)

    def is_free(self, found, outs, name):
        """Whether a part isn't out, of a scene from which these are."""
        def names(one):
            return [one[0]] + [inner for each in one[5] for inner in names(each)]
        def parts(one):
            return [one] + [inner for each in one[5] for inner in parts(each)]
        return not any(name in names(one) for one in parts(found[0]) if one[0] in outs)

    def test_scenes_without_wishes(self):
        found = scene(part("all", ear="hear"))
        made = done([(0, 0, "down", 5, 5), 9], Desk, found)
        self.assertEqual([wishes_of(found), made.told(), made.heard()], [[], [], [(0, "all", 0, "down")]])
        self.assertEqual(read_desk(made.written()).written(), made.written())
        self.assertTrue(is_touch((0, 0, "down", 5, 5)))
        self.assertEqual(done([], Desk, alone()).told(), [])


if __name__ == "__main__":
    unittest.main()
