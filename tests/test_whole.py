"""The promise over the whole [3], in drawn histories: held against a slow model, and against what it says of all."""

import unittest

import draws
from build import papers, part, scene, stand
from model import Model
from strokeguess.kinds import is_word
from strokeguess.machines import machine_of
from strokeguess.reader import Reader
from strokeguess.scenes import is_scene, parts_of, wishes_of
from strokeguess.ways import way_at

BY = [{}, {"slop": 0, "gap": 30}, {"slop": 5, "gap": 100, "guessing": True}, {"guessing": True}, {"slop": 40, "gap": 1000}]


def told_by(found, rows, until=10 ** 6, **by):
    made = Reader(found, **by)
    for row in rows:
        made.put(row)
    made.go(until)
    return made


def swapped(one, swap):
    """A part with other wishes in the places of its own and of those in it."""
    name, box, ear, shelf, wishes, parts = one
    return (name, box, ear, shelf, tuple(swap(wish) for wish in wishes), tuple(swapped(inner, swap) for inner in parts))


def in_tens(draw, wish):
    """A wish of the same kind that waits for tens."""
    if wish[0] == "press":
        return (*wish[:2], draw.choice([10, 20, 30, 40]))
    return (*wish[:2], draws.machine(draw, 6, (10, 20, 30))) if wish[0] == "made" else wish


class Drawn(unittest.TestCase):
    seed = None

    def each(self, seeds, many=40, fingers=(1, 2, 3, 4)):
        for self.seed in range(seeds):
            draw = draws.drawn(self.seed)
            found = draws.scene(draw, draw.choice([0.1, 0.3, 0.6]))
            yield draw, found, draws.touches(draw, many, draw.choice(fingers)), draw.choice(BY)

    def _formatMessage(self, msg, standardMsg):
        return super()._formatMessage(msg, f"seed {self.seed}: {standardMsg}")


class AgainstTheModel(Drawn):
    def test_each_touch(self):
        for draw, found, rows, by in self.each(250, 50):
            made, model, outs = Reader(found, **by), Model(found, **by), []
            for row in rows:
                self.assertEqual(made.put(row), model.put(row))
                name = draw.choice(parts_of(found))
                if draw.random() < 0.05 and name != found[0][0] and not model.is_out(name):
                    self.assertEqual(made.out(name), model.out(name))
                    outs.append(name)
                elif outs and draw.random() < 0.1:
                    made.back()
                    model.back()
                    outs.pop()
                self.assertEqual([made.places(), made.shown()], [model.places(), model.shown()])
            self.assertEqual(made.go(10 ** 6), model.go(10 ** 6))
            self.assertEqual([made.told(), made.heard(), papers(made)], [model.told(), model.heard(), model.papers()])

    def test_many_waits_that_end_at_one_moment(self):
        for draw, found, rows, _ in self.each(120, 50, (2, 3, 5)):
            found = (swapped(found[0], lambda wish: in_tens(draw, wish)), *found[1:])
            by = {"gap": draw.choice([10, 20, 30]), "guessing": True}
            made, model, moment = Reader(found, **by), Model(found, **by), 0
            for row in rows:
                moment += draw.choice([0, 0, 10, 10, 20])
                self.assertEqual(made.put((moment, *row[1:])), model.put((moment, *row[1:])))
            self.assertEqual(made.go(10 ** 6), model.go(10 ** 6))
            self.assertEqual(papers(made), model.papers())

    def test_the_draws_come_to_all_there_is(self):
        words, whys = set(), set()
        for _, found, rows, by in self.each(80):
            made = told_by(found, rows, **by)
            words |= {row[3] for row in made.told()}
            whys |= {how[2 if how[0] == "out" else 0] for sheet in papers(made) for _, how in sheet}
        self.assertEqual(words, {"tapped", "began", "moved", "ended", "flung", "off", "shelf", "over", "guess", "back"})
        self.assertEqual(whys, {"won", "moved", "lost", "late", "up", "made", "to", "kept", "stands"})


class Time(Drawn):
    def test_one_reading_however_time_is_told_to_pass(self):
        for draw, found, rows, by in self.each(60):
            plain = told_by(found, rows, **by)
            other = Reader(found, **by)
            last = 0
            for row in rows:
                for moment in sorted(draw.randint(last, row[0]) for _ in range(draw.randint(0, 3))):
                    other.go(moment)
                other.put(row)
                last = row[0]
            for moment in sorted(draw.randint(last, 10 ** 6) for _ in range(5)):
                other.go(moment)
            other.go(10 ** 6)
            self.assertEqual(stand(other), stand(plain))

    def test_each_thing_is_told_at_its_own_moment(self):
        for _, found, rows, by in self.each(12, 14):
            plain = told_by(found, rows, rows[-1][0] + 500, **by)
            other = Reader(found, **by)
            waiting = list(rows)
            for moment in range(rows[-1][0] + 501):
                told = other.go(moment)
                while waiting and waiting[0][0] == moment:
                    told += other.put(waiting.pop(0))
                self.assertEqual([row[0] for row in told], [moment] * len(told))
            self.assertEqual(stand(other), stand(plain))

    def test_moments_never_go_back(self):
        for _, found, rows, by in self.each(30):
            moments = [row[0] for row in told_by(found, rows, **by).told()]
            self.assertEqual(moments, sorted(moments))


class Wins(Drawn):
    def test_only_such_win_in_one_contest_as_go_beside_one_another(self):
        for _, found, rows, by in self.each(80):
            beside = {frozenset(pair) for pair in found[1]}
            for sheet in papers(told_by(found, rows, **by)):
                won = [label for label, how in sheet if how[0] == "won"]
                self.assertTrue(all({one, other} in beside for at, one in enumerate(won) for other in won[at + 1:]))

    def test_who_is_out_by_to_is_out_by_one_that_won_then_in_a_contest_of_its(self):
        for _, found, rows, by in self.each(40):
            made = told_by(found, rows, **by)
            sheets = papers(made)
            for sheet in sheets:
                for label, how in sheet:
                    if how[0] == "out" and how[2] == "to":
                        _, moment, _, other, stroke = how
                        self.assertEqual(made.how(stroke, other), ("won", moment))

    def test_each_win_is_told_once_and_no_other(self):
        for _, found, rows, by in self.each(60):
            made = told_by(found, rows, **by)
            wins = [(row[0], row[1], row[2]) for row in made.told() if row[3] in ("tapped", "began")]
            hows = {(label, made.how(stroke, label)) for stroke in range(made.many_strokes()) for label in made.labels(stroke)
                    if made.how(stroke, label)[0] == "won"}
            self.assertEqual(len(wins), len(set(wins)))
            self.assertEqual({(label, ("won", moment)) for moment, label, _ in wins}, hows)
            ends = [(row[1], row[2]) for row in made.told() if row[3] in ("tapped", "ended", "flung", "off")]
            self.assertEqual(len(ends), len(set(ends)))


class GuessesTakenBack(Drawn):
    def test_what_was_guessed_and_taken_back_is_as_never_told(self):
        for _, found, rows, by in self.each(80):
            rest = {name: worth for name, worth in by.items() if name != "guessing"}
            one, other = Reader(found, **rest, guessing=True), Reader(found, **rest)
            for row in rows:
                told = one.put(row)
                self.assertEqual([row for row in told if row[3] not in ("guess", "back")], other.put(row))
                self.assertEqual([one.places(), one.shown()], [other.places(), other.shown()])
            one.go(10 ** 6)
            other.go(10 ** 6)
            self.assertEqual(papers(one), papers(other))
            self.assertEqual([row for row in one.told() if row[3] not in ("guess", "back")], other.told())

    def test_each_guess_is_won_or_taken_back_or_kept(self):
        for _, found, rows, by in self.each(80):
            made = told_by(found, rows, **{**by, "guessing": True})
            for row in made.told():
                if row[3] == "guess":
                    behind = [other[3] for other in made.told() if other[1:3] == row[1:3]]
                    known = behind.index("guess")
                    how = made.how(row[2], row[1])
                    ends = {"won": ("tapped", "began"), "out": ("back",), "kept": (None,)}[how[0]]
                    self.assertIn((behind[known + 1:] + [None])[0], ends)
                    self.assertEqual(behind.count("guess"), 1)


class Pulls(Drawn):
    def test_what_shelves_took_and_what_was_left_over_is_what_the_finger_went(self):
        for _, found, rows, by in self.each(80):
            made = told_by(found, rows, **by)
            ways = {one[0]: one[3][0] for one in walk(found[0]) if one[3]}
            wishes = {wish[1]: (name, wish) for name, wish in wishes_of(found)}
            outward = {one[0]: [other[0] for other in walk(found[0])[::-1] if one in walk(other)] for one in walk(found[0])}
            steps, told = [], made.told()
            for at, (_, label, _, word, more) in enumerate(told):
                if word == "moved" and wishes[label][1][0] == "pull":
                    dx, dy = more
                    behind = at + 1
                    order = []
                    while behind < len(told) and told[behind][3] in ("shelf", "over"):
                        _, _, _, word, more = told[behind]
                        if word == "over":
                            dx, dy = dx - more[0], dy - more[1]
                            self.assertNotEqual(more, (0, 0))
                        else:
                            order.append((ways[more[0]], outward[wishes[label][0]].index(more[0])))
                            dx -= more[1] if ways[more[0]] == "across" else 0
                            dy -= more[1] if ways[more[0]] == "along" else 0
                            steps.append(more)
                        behind += 1
                    self.assertEqual((dx, dy), (0, 0))
                    self.assertEqual(order, sorted(order))
            places = dict.fromkeys(ways, 0)
            for name, took, place in steps:
                places[name] += took
                self.assertEqual(places[name], place)
            self.assertEqual(places, made.places())


def walk(one):
    """A part and all in it, each ahead of those in it."""
    return [one] + [deep for inner in one[5] for deep in walk(inner)]


class Ears(Drawn):
    def test_each_touch_is_heard_once_to_the_first_that_stops_it(self):
        for _, found, rows, by in self.each(40):
            ears = {one[0]: one[2] for one in walk(found[0])}
            made, ways, wanted = Reader(found, **by), {}, []
            for row in rows:
                moment, finger, word, x, y = row
                if word == "down":
                    # What ends at the down's moment is ahead of it, so it counts for the way.
                    made.go(moment)
                    ways[finger] = way_at(found, x, y, places=made.places())
                made.put(row)
                hearing = [name for name in ways[finger] if ears[name]]
                stops = [at for at, name in enumerate(hearing) if ears[name] == "stop"]
                wanted += [(moment, name, finger, word) for name in hearing[:stops[0] + 1 if stops else None]]
            self.assertEqual(made.heard(), wanted)


class Fingers(Drawn):
    def rooms(self, draw):
        """A scene of three parts side by side, each with drawn ones in it, in one that has neither wish nor shelf."""
        names = ["p" + sign for sign in draws.LETTERS]
        while True:
            labels, among = list(draws.LETTERS), []
            for at in range(3):
                one = draws.part(draw, 2, list(names), labels, (90, 90))
                among.append((one[0] + "abc"[at], (at * 100, 0, 100, 100), *one[2:5],
                              tuple(renamed(inner, "abc"[at]) for inner in one[5])))
            known = [wish[1] for _, wish in wishes_of((part("top", parts=among), (), ()))]
            heeds = tuple((one, other) for at, one in enumerate(known) for other in known[at + 1:] if draw.random() < 0.3)
            found = (part("top", box=(0, 0, 300, 100), ear="hear", parts=among), (), heeds)
            if is_scene(found) and known:
                return found

    def test_fingers_on_ways_that_share_nothing_are_read_as_each_alone(self):
        for self.seed in range(60):
            draw = draws.drawn(self.seed)
            found = self.rooms(draw)
            rows = []
            for finger in range(3):
                for moment, _, word, x, y in draws.touches(draw, 20, 1, 90):
                    x = max(0, min(99, x)) if word == "down" else x
                    rows.append((moment, finger, word, x + 100 * finger, y))
            rows.sort(key=lambda row: row[0])
            together = told_by(found, rows)
            strokes = [row[1] for row in rows if row[2] == "down"]
            rooms = [{one[0] for one in walk(inner)} for inner in found[0][5]]
            for finger in range(3):
                alone = told_by(found, [row for row in rows if row[1] == finger])
                its = [at for at, other in enumerate(strokes) if other == finger]
                told = [(*row[:2], its.index(row[2]), *row[3:]) for row in together.told() if row[2] in its]
                self.assertEqual(told, alone.told())
                sheets = [papers(together)[at] for at in its]
                self.assertEqual(len(sheets), alone.many_strokes())
                for one, other in zip(sheets, papers(alone)):
                    self.assertEqual([(label, how[:3]) for label, how in one], [(label, how[:3]) for label, how in other])
                self.assertEqual([row for row in together.heard() if row[2] == finger], alone.heard())
                self.assertEqual({name: place for name, place in together.places().items() if name in rooms[finger]},
                                 {name: place for name, place in alone.places().items() if name in rooms[finger]})


def renamed(one, sign):
    """A part whose name, and the names of those in it, end with another sign."""
    name = one[0] + sign
    assert is_word(name)
    return (name, *one[1:5], tuple(renamed(inner, sign) for inner in one[5]))


class MadeOnes(Drawn):
    def test_taps_and_presses_put_as_machines_tell_the_same(self):
        for _, found, rows, by in self.each(100):
            rest = {name: worth for name, worth in by.items() if name != "guessing"}
            gap = rest.get("gap", 300)
            one = told_by(found, rows, **rest)
            first = swapped(found[0], lambda wish: ("made", wish[1], machine_of(wish, gap=gap))
                            if wish[0] in ("tap", "press") else wish)
            other = told_by((first, *found[1:]), rows, **rest)
            self.assertEqual([one.told(), one.heard(), one.places()], [other.told(), other.heard(), other.places()])
            self.assertEqual([[how[:2] for _, how in sheet] for sheet in papers(one)],
                             [[how[:2] for _, how in sheet] for sheet in papers(other)])


class Copies(Drawn):
    def test_a_copy_goes_on_as_the_one_it_was_made_of(self):
        for draw, found, rows, by in self.each(30):
            made = Reader(found, **by)
            half = draw.randint(0, len(rows))
            for row in rows[:half]:
                made.put(row)
            one = made.copy()
            other = one.copy()
            before = stand(made)
            for row in rows[half:]:
                self.assertEqual(one.put(row), other.put(row))
            self.assertEqual(stand(made), before)
            self.assertEqual(stand(one), stand(other))
            self.assertEqual(stand(one), stand(told_by(found, rows, rows[-1][0], **by)))

    def test_the_same_is_told_again(self):
        for _, found, rows, by in self.each(10):
            self.assertEqual(stand(told_by(found, rows, **by)), stand(told_by(found, rows, **by)))


class Long(unittest.TestCase):
    def test_two_thousand_touches_of_ten_fingers(self):
        # What is kept waits for a machine that ends by a lost finger alone, or by one that goes far.
        endless = ((None, (("up", 1), ("out", 0))), (None, (("down", 0),)))
        wishes = (("tap", "t", 1), ("press", "p", 100), ("pull", "q", "any"), ("made", "m", endless), ("spread", "s"))
        found = scene(part("all", *wishes, ear="hear", shelf=("across", -9, 9)), [], [(one, "m") for one in "tpqs"])
        draw = draws.drawn(5)
        rows = draws.touches(draw, 2000, 10)
        made = Reader(found, guessing=True)
        for row in rows:
            made.put(row)
        self.assertGreater(sum(row[3] == "guess" for row in made.told()), 300)
        self.assertEqual(stand(made.copy()), stand(made))


if __name__ == "__main__":
    unittest.main()
