"""A slow reader, written from the document's words alone, against which the reader is held in drawn histories.

Hopes are dicts, everything is looked for among all hopes each time, and nothing is shared with the package.
"""

PAIRS = ("spread", "turn")


def beyond(way, dx, dy, slop):
    return {"any": dx * dx + dy * dy > slop * slop, "across": abs(dx) > slop, "along": abs(dy) > slop}[way]


def less(place, other):
    return (place[0] - other[0], place[1] - other[1])


class Model:
    def __init__(self, scene, slop=18, gap=300, guessing=False):
        self.slop, self.gap, self.guessing = slop, gap, guessing
        self.top, beside, self.heeds = scene
        self.beside = set(beside) | {pair[::-1] for pair in beside}
        self.parts, self.above = {}, {}
        self.enter(self.top, None)
        self.shelves = {name: 0 for name, part in self.parts.items() if part[3]}
        self.outs, self.hopes, self.contests, self.strokes = [], [], [], []
        self.finger, self.rows, self.ears, self.now, self.touch = {}, [], [], None, 0

    def enter(self, part, above):
        self.parts[part[0]], self.above[part[0]] = part, above
        for inner in part[5]:
            self.enter(inner, part[0])

    def outward(self, name):
        while name is not None:
            yield name
            name = self.above[name]

    def is_out(self, name):
        return any(part in self.outs for part in self.outward(name))

    # What is told.

    def tell(self, moment, hope, word, more=()):
        self.rows.append((moment, hope["label"], hope["strokes"][0], word, tuple(more)))

    def how(self, stroke, label):
        for hope in self.contests[stroke] if 0 <= stroke < len(self.contests) else []:
            if hope["label"] == label:
                if hope["end"]:
                    return hope["end"]
                return ("stands",) if hope["kept"] is None else ("kept", hope["kept"])
        return None

    def papers(self):
        return [[(hope["label"], self.how(at, hope["label"])) for hope in contest]
                for at, contest in enumerate(self.contests)]

    def told(self):
        return self.rows

    def heard(self):
        return self.ears

    def places(self):
        return {name: place for name, place in self.shelves.items() if not self.is_out(name)}

    def shown(self):
        before = dict(self.shelves)
        kept = [hope for hope in self.hopes if not hope["end"] and hope["kept"] is not None]
        for hope in sorted(kept, key=lambda one: one["keeping"]):
            if hope["kind"] == "pull":
                self.take(hope["part"], *self.step(hope, self.down_of(hope)))
        found, self.shelves = self.places(), before
        return found

    # Shelves.

    def take(self, name, dx, dy):
        taken, over = [], []
        for way, left in (("across", dx), ("along", dy)):
            for part in self.outward(name):
                shelf = self.parts[part][3]
                if shelf and shelf[0] == way:
                    goal = sorted((shelf[1], self.shelves[part] + left, shelf[2]))[1]
                    took = goal - self.shelves[part]
                    self.shelves[part] = goal
                    left -= took
                    if took:
                        taken.append((part, took, goal))
            over.append(left)
        return taken, tuple(over)

    # Places.

    def way(self, x, y):
        found, among, left, top = [], [self.top], 0, 0
        while True:
            there = [part for part in among if not self.is_out(part[0])
                     and left + part[1][0] <= x < left + part[1][0] + part[1][2]
                     and top + part[1][1] <= y < top + part[1][1] + part[1][3]]
            if not there:
                return found[::-1]
            name, box, _, shelf, _, among = there[-1]
            found.append(name)
            left, top = left + box[0], top + box[1]
            if shelf and shelf[0] == "across":
                left += self.shelves[name]
            elif shelf:
                top += self.shelves[name]

    def stroke_of(self, hope):
        return self.strokes[hope["strokes"][-1]]

    def down_of(self, hope):
        return self.stroke_of(hope)["down"]

    def is_beyond(self, hope, way="any"):
        stroke = self.stroke_of(hope)
        return beyond(way, *less(stroke["at"], stroke["down"]), self.slop)

    def step(self, hope, start):
        dx, dy = less(self.stroke_of(hope)["at"], start)
        way = hope["wish"][2] if hope["kind"] == "pull" else "any"
        return (dx if way != "along" else 0, dy if way != "across" else 0)

    def apart(self, hope):
        one, other = hope["strokes"]
        return less(self.strokes[other]["at"], self.strokes[one]["at"])

    # Time.

    def wait(self, hope):
        """The moment at which a hope's wait ends, and what then."""
        if hope["end"] or hope["kept"] is not None or hope["from"] is None:
            return None
        kind, wish = hope["kind"], hope["wish"]
        if kind == "tap":
            return hope["from"] + self.gap
        if kind == "press":
            return hope["from"] + wish[2]
        wait = wish[2][hope["state"]][0]
        return None if wait is None else hope["from"] + wait

    def pass_to(self, moment):
        while True:
            due = [(self.wait(hope), hope["counted"], at) for at, hope in enumerate(self.hopes)
                   if self.wait(hope) is not None and self.wait(hope) <= moment]
            if not due:
                return
            end, _, at = min(due)
            hope = self.hopes[at]
            if hope["kind"] == "tap":
                self.give(hope, end, "late")
            elif hope["kind"] == "press":
                self.claim(hope, end)
            else:
                self.word(hope, end, "wait")

    def go(self, moment):
        known = len(self.rows)
        self.pass_to(moment)
        self.now = moment
        return self.rows[known:]

    # Wins.

    def stands(self, hope):
        return not hope["end"]

    def rivals(self, hope):
        return [other for at in hope["strokes"] for other in self.contests[at]]

    def held(self, hope):
        return any(self.stands(other) and (hope["label"], other["label"]) in self.heeds for other in self.rivals(hope))

    def put_out(self, hope, moment, *why):
        was_kept = hope["kept"] is not None
        hope["end"] = ("out", moment, *why)
        if was_kept and self.guessing:
            self.tell(moment, hope, "back")

    def give(self, hope, moment, why):
        self.put_out(hope, moment, why)
        self.look(moment)

    def claim(self, hope, moment):
        if hope["kept"] is not None:
            return
        if self.held(hope):
            hope["kept"] = moment
            hope["keeping"] = sum(other["kept"] is not None for other in self.hopes)
            if self.guessing:
                self.tell(moment, hope, "guess")
        else:
            self.win(hope, moment)
            self.look(moment)

    def look(self, moment):
        while True:
            free = [hope for hope in self.hopes if self.stands(hope) and hope["kept"] is not None and not self.held(hope)]
            if not free:
                return
            self.win(min(free, key=lambda one: one["place"]), moment)

    def win(self, hope, moment):
        hope["end"] = ("won", moment)
        kind = hope["kind"]
        if kind == "tap" or kind == "made" and hope["up"]:
            hope["over"] = True
            self.tell(moment, hope, "tapped", self.stroke_of(hope)["at"])
        else:
            self.tell(moment, hope, "began")
            if kind in PAIRS:
                hope["last"] = None
            else:
                hope["last"] = self.down_of(hope) if kind == "pull" else self.stroke_of(hope)["at"]
            self.moved(hope, moment)
        for other in self.rivals(hope):
            if self.stands(other) and (hope["label"], other["label"]) not in self.beside:
                self.put_out(other, moment, "to", hope["label"], hope["strokes"][0])

    def moved(self, hope, moment):
        if hope["kind"] in PAIRS:
            now = self.apart(hope)
            if now != hope["last"]:
                self.tell(moment, hope, "moved", hope["first"] + now)
            hope["last"] = now
            return
        step = self.step(hope, hope["last"])
        hope["last"] = self.stroke_of(hope)["at"]
        if any(step):
            self.tell(moment, hope, "moved", step)
            if hope["kind"] == "pull":
                taken, over = self.take(hope["part"], *step)
                for row in taken:
                    self.tell(moment, hope, "shelf", row)
                if any(over):
                    self.tell(moment, hope, "over", over)

    def fling(self, hope):
        if hope["kind"] != "pull":
            return None
        touches = self.stroke_of(hope)["touches"]
        moment, _, _, x, y = touches[-1]
        early = [touch for touch in touches if moment - touch[0] >= 100]
        start = early[-1] if early else touches[0]
        dx, dy = x - start[3], y - start[4]
        if not beyond("any", dx, dy, 50):
            return None
        way = hope["wish"][2]
        thrown = (dx if way != "along" else 0, dy if way != "across" else 0)
        return thrown if any(thrown) else None

    # Touches.

    def put(self, touch):
        known = len(self.rows)
        moment, finger, word, x, y = touch
        self.go(moment)
        self.touch += 1
        if word == "down":
            way = self.way(x, y)
            self.finger[finger] = len(self.strokes)
            self.strokes.append({"down": (x, y), "at": (x, y), "touches": [touch], "way": way})
            self.begin(way, self.finger[finger])
        number = self.finger[finger]
        stroke = self.strokes[number]
        if word != "down":
            stroke["touches"].append(touch)
            if word != "lost":
                stroke["at"] = (x, y)
        for at, hope in enumerate(self.contests[number]):
            if self.stands(hope):
                self.ask(hope, moment, word, (self.touch, at))
            if hope["end"] and hope["end"][0] == "won" and not hope["over"] and word != "down":
                self.carry(hope, moment, word)
        for name in stroke["way"]:
            ear = None if self.is_out(name) else self.parts[name][2]
            if ear:
                self.ears.append((moment, name, finger, word))
            if ear == "stop":
                break
        return self.rows[known:]

    def begin(self, way, number):
        contest = []
        self.contests.append(contest)
        for name in way:
            for wish in self.parts[name][4]:
                same = [hope for hope in self.hopes if hope["wish"] == wish and self.waits(hope)]
                if same:
                    hope = min(same, key=lambda one: one["strokes"][0])
                else:
                    hope = {"part": name, "kind": wish[0], "wish": wish, "label": wish[1], "strokes": [], "end": None,
                            "kept": None, "over": False, "from": None, "counted": None, "up": False, "taps": 0,
                            "state": 0, "place": (number, len(contest)), "first": None}
                    self.hopes.append(hope)
                contest.append(hope)
        for hope in contest:
            hope["strokes"].append(number)
            hope["up"], hope["from"] = False, None
            if hope["kind"] in PAIRS and len(hope["strokes"]) == 2:
                hope["first"] = self.apart(hope)

    def waits(self, hope):
        if hope["end"] or hope["kept"] is not None:
            return False
        if hope["kind"] == "tap":
            return hope["taps"] > 0 and hope["up"]
        if hope["kind"] in PAIRS:
            return len(hope["strokes"]) == 1
        return hope["kind"] == "made" and hope["up"] and "down" in dict(hope["wish"][2][hope["state"]][1])

    def ask(self, hope, moment, word, counted):
        kind, claimed = hope["kind"], hope["kept"] is not None
        if word == "up":
            hope["up"] = True
        if word == "lost":
            return self.give(hope, moment, "lost")
        if kind == "made":
            return self.ask_made(hope, moment, word, counted)
        if kind in ("tap", "press") and not claimed and self.is_beyond(hope):
            return self.give(hope, moment, "moved")
        if kind == "tap" and word == "up":
            hope["taps"] += 1
            if hope["taps"] == hope["wish"][2]:
                return self.claim(hope, moment)
            hope["from"], hope["counted"] = moment, counted
        elif kind == "press" and word == "down":
            hope["from"], hope["counted"] = moment, counted
        elif word == "up" and kind != "tap":
            return self.give(hope, moment, "up")
        elif word == "move" and kind == "pull" and self.is_beyond(hope, hope["wish"][2]):
            return self.claim(hope, moment)
        elif word == "move" and kind in PAIRS and len(hope["strokes"]) == 2:
            (fx, fy), (x, y) = hope["first"], self.apart(hope)
            one, other = fx * fx + fy * fy, x * x + y * y
            spread = 16 * other > 25 * one or 25 * other < 16 * one
            turned = abs(fx * y - fy * x) > fx * x + fy * y
            if spread if kind == "spread" else turned:
                return self.claim(hope, moment)

    def ask_made(self, hope, moment, word, counted):
        if hope["kept"] is not None:
            return self.give(hope, moment, "up") if word == "up" else None
        if word == "down" and len(hope["strokes"]) == 1:
            hope["counted"] = counted
            return self.into(hope, moment, 0)
        if word == "move" and not self.is_beyond(hope):
            return None
        if word == "up" and self.is_beyond(hope):
            return self.give(hope, moment, "made")
        hope["counted"] = counted
        return self.word(hope, moment, "out" if word == "move" else word)

    def word(self, hope, moment, word):
        goal = dict(hope["wish"][2][hope["state"]][1]).get(word, "give")
        if goal == "give":
            return self.give(hope, moment, "made")
        if goal == "claim":
            return self.claim(hope, moment)
        return self.into(hope, moment, goal)

    def into(self, hope, moment, state):
        hope["state"], hope["from"] = state, moment
        wait, steps = hope["wish"][2][state]
        if hope["up"] and wait is None and "down" not in dict(steps):
            self.give(hope, moment, "made")

    def carry(self, hope, moment, word):
        if word != "lost":
            self.moved(hope, moment)
        if word == "lost":
            self.tell(moment, hope, "off")
        elif word == "up":
            fling = self.fling(hope)
            self.tell(moment, hope, "flung" if fling else "ended", fling or ())
        hope["over"] = word in ("up", "lost")

    # The desk's.

    def out(self, name):
        known = len(self.rows)
        self.outs.append(name)
        for part in self.shelves:
            if self.is_out(part):
                self.shelves[part] = 0
        its = sorted([hope for hope in self.hopes if self.is_out(hope["part"])], key=lambda one: one["place"])
        for hope in its:
            if self.stands(hope):
                self.put_out(hope, self.now, "gone")
        for hope in its:
            if hope["end"][0] == "won" and not hope["over"]:
                hope["over"] = True
                self.tell(self.now, hope, "off")
        self.look(self.now)
        return self.rows[known:]

    def back(self):
        self.outs.pop()
