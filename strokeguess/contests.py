"""Contests: which hopes come into them, who claims, who wins, and who is out by that."""

from heapq import heappop, heappush

from strokeguess.hopes import CLAIM, Stroke, hope_for
from strokeguess.scenes import wishes_of
from strokeguess.touches import OVER_WORDS


class Contests:
    """The contests of all strokes told so far, and the hopes in them."""

    def __init__(self, scene, slop, gap, teller):
        _, beside, heeds = scene
        self._slop = slop
        self._gap = gap
        self._teller = teller
        self._wishes = {}
        for name, wish in wishes_of(scene):
            self._wishes.setdefault(name, []).append(wish)
        self._beside = _others_of([*beside, *[(other, label) for label, other in beside]])
        self._heeds = _others_of(heeds)
        # By label: hopes that stand and haven't claimed, so that some of them may wait for a finger.
        self._unclaimed = {}
        # All hopes by their numbers, in the order of their first strokes, then of the contest.
        self._hopes = []
        # By the numbers of the strokes: the hopes of each, in order.
        self._contests = []
        self._going = {}
        self._asked = 0
        # Pulls whose claims are kept, in the order in which they were.
        self._kept_pulls = []
        # By a standing hope's number: kept ones that wait for it. Each waits for one of those that it heeds at a time;
        # none is ever added to these, as no hope comes into a contest behind its down.
        self._held = {}
        # A heap of the numbers of kept ones that wait for none any more.
        self._free = []
        # A heap of (moment, order of asking, hope's number); a wait that has ended otherwise by now is there, too.
        self._waits = []

    def many(self):
        """Tell how many strokes there were."""
        return len(self._contests)

    def hopes(self, number):
        """List the hopes of a stroke's contest, in order; none of what is no stroke's number."""
        return list(self._contests[number]) if 0 <= number < len(self._contests) else []

    def kept_pulls(self):
        """List the pulls whose claims are kept, in the order in which they were."""
        return [hope for hope in self._kept_pulls if hope.stands()]

    def begin(self, touch, way):
        """Take a down, of which the place has a way."""
        _, finger, _, x, y = touch
        stroke = Stroke(len(self._contests), x, y)
        stroke.follow(touch)
        contest = []
        for name in way:
            contest.extend([self._hope(name, wish) for wish in self._wishes.get(name, [])])
        for hope in contest:
            hope.come(stroke)
        self._contests.append(contest)
        self._going[finger] = stroke
        self._go_through(touch, contest)

    def go_on(self, touch):
        """Take a move, an up, or a lost touch."""
        _, finger, word, _, _ = touch
        stroke = self._going[finger]
        stroke.follow(touch)
        self._go_through(touch, self._contests[stroke.number])
        if word in OVER_WORDS:
            del self._going[finger]

    def pass_to(self, moment):
        """End all waits to a moment, each at its own one."""
        hope = self._next_due(moment)
        while hope is not None:
            end = hope.ends()
            self._heed_answer(hope, end, hope.end())
            hope = self._next_due(moment)

    def take_out(self, names, moment):
        """Take out the hopes of parts: those that stand, then those that have won and are not over."""
        hopes = [hope for hope in self._hopes if hope.name in names]
        for hope in hopes:
            if hope.stands():
                hope.leave(moment, "gone")
                self._go_out(hope, moment)
        for hope in hopes:
            self._teller.off(hope, moment)
        self._look(moment)

    def _hope(self, name, wish):
        """Tell which hope of a part's wish comes into a contest."""
        label = wish[1]
        older = [hope for hope in self._unclaimed.get(label, []) if hope.stands() and hope.claimed is None]
        hope = hope_for(name, wish, older, self._slop, self._gap)
        if hope.number is None:
            hope.number = len(self._hopes)
            self._hopes.append(hope)
            older.append(hope)
        self._unclaimed[label] = older
        return hope

    def _go_through(self, touch, contest):
        """Ask all hopes of a contest, in order, with all that comes of each ahead of the next one."""
        moment, _, word, _, _ = touch
        for hope in contest:
            if hope.stands():
                self._asked += 1
                self._heed_answer(hope, moment, hope.ask(moment, word, self._asked))
            self._teller.touched(hope, touch)

    def _next_due(self, moment):
        """Tell which hope's wait ends next, at a moment at the latest, or None."""
        while self._waits and self._waits[0][0] <= moment:
            end, order, number = heappop(self._waits)
            hope = self._hopes[number]
            if hope.ends() == end and hope.counted == order:
                return hope
        return None

    def _heed_answer(self, hope, moment, answer):
        """Do all that comes of a hope's answer."""
        end = hope.ends()
        if end is not None:
            heappush(self._waits, (end, hope.counted, hope.number))
        if answer == CLAIM:
            self._claim(hope, moment)
        elif answer is not None:
            self._go_out(hope, moment)
            self._look(moment)

    def _claim(self, hope, moment):
        """Take a claim: it wins, or is kept where a hope that it heeds stands in a contest of its."""
        holder = self._holder(hope)
        if holder is None:
            self._win(hope, moment)
            self._look(moment)
            return
        self._hold(hope, holder)
        if hope.wish[0] == "pull":
            self._kept_pulls.append(hope)
        self._teller.kept(hope, moment)

    def _win(self, hope, moment):
        """Let a hope win, and put out all that can't stand beside it."""
        hope.win(moment)
        self._teller.won(hope, moment)
        self._let_go(hope)
        beside = self._beside.get(hope.label, {})
        for other in self._rivals(hope):
            if other.stands() and other.label not in beside:
                other.leave(moment, "to", hope.label, hope.first_stroke())
                self._go_out(other, moment)

    def _go_out(self, hope, moment):
        """Do what comes of a hope's being out at once; kept claims are looked at later."""
        self._teller.went_out(hope, moment)
        self._let_go(hope)

    def _look(self, moment):
        """Look at the kept claims, and let win those that can, the first one of them each time."""
        while self._free:
            hope = self._hopes[heappop(self._free)]
            if hope.stands():
                self._win(hope, moment)

    def _rivals(self, hope):
        """List the hopes of a hope's contests, by their strokes, in each in order; itself, too."""
        found = []
        for stroke in hope.strokes:
            found.extend(self._contests[stroke.number])
        return found

    def _holder(self, hope):
        """Tell a hope that another one heeds and that stands in one of its contests, or None."""
        heeded = self._heeds.get(hope.label, {})
        rivals = self._rivals(hope) if heeded else []
        for other in rivals:
            if other.stands() and other.label in heeded:
                return other
        return None

    def _hold(self, hope, holder):
        """Have a kept claim wait for one that it heeds to stand no more."""
        self._held.setdefault(holder.number, []).append(hope)

    def _let_go(self, hope):
        """Let the kept claims that heed a hope, which stands no more, wait for others, or be free to win."""
        held = self._held.pop(hope.number, [])
        for other in held:
            holder = self._holder(other)
            if holder is None:
                heappush(self._free, other.number)
            else:
                self._hold(other, holder)


def _others_of(pairs):
    """Tell of each label, as a dict of truths, the others that stand behind it in a pair."""
    found = {}
    for label, other in pairs:
        found.setdefault(label, {})[other] = True
    return found
