"""Likeness: machines that are alike, histories that tell others apart, claims, touches of histories, smaller machines
[37, 38]."""

import itertools
import unittest

import draws
from build import Asked, alone, papers, reader, state
from strokeguess.likeness import alike, claimed, led, smaller
from strokeguess.machines import is_machine, machine_of
from strokeguess.reader import Reader
from strokeguess.touches import is_touch
from test_whole import swapped


class Walk:
    """One machine on a history, told by [35] word by word, with time going by ones."""

    def __init__(self, machine):
        self.machine, self.state, self.is_up, self.left = machine, None, False, None
        self.into(0)

    def into(self, goal):
        self.state = goal
        if isinstance(goal, int):
            self.left, steps = self.machine[goal]
            if self.is_up and self.left is None and "down" not in dict(steps):
                self.state = "give"

    def steps(self):
        return dict(self.machine[self.state][1]) if isinstance(self.state, int) else {}

    def waits(self):
        return self.is_up and "down" in self.steps()

    def word(self, word):
        if isinstance(word, int):
            for _ in range(word):
                self.pass_one()
            return
        if word != "out":
            self.is_up = word == "up"
        if isinstance(self.state, int):
            self.into(self.steps().get(word, "give"))

    def pass_one(self):
        if isinstance(self.state, int) and self.left is not None:
            self.left -= 1
            if self.left == 0:
                self.into(self.steps()["wait"])

    def seen(self):
        return (self.state == "claim", self.state == "give", self.waits())


def walked(machine, history):
    """A machine's walk behind a history."""
    walk = Walk(machine)
    for word in history:
        walk.word(word)
    return walk


def may_come(machines, history):
    """Whether a history is one of these machines."""
    for at, word in enumerate(history):
        walks = [walked(machine, history[:at]) for machine in machines]
        if isinstance(word, int) and not isinstance(word, bool):
            if word < 1:
                return False
        elif word == "down":
            if not walks[0].is_up or not any(walk.waits() for walk in walks):
                return False
        elif word not in ("out", "up") or walks[0].is_up:
            return False
    return True


def search(machines, is_wanted, deepest, times):
    """How many words a shortest history has behind which what is seen is wanted, by looking at all; None beyond."""
    rows = [()]
    for depth in range(deepest + 1):
        found = []
        for history in rows:
            walks = [walked(machine, history) for machine in machines]
            if is_wanted([walk.seen() for walk in walks]):
                return depth
            if all(walk.state in ("claim", "give") for walk in walks):
                continue
            found.append(history)
        rows = [history + (word,) for history in found for word in ("out", "up", "down", *times)
                if may_come(machines, history + (word,))
                and not (isinstance(word, int) and history and isinstance(history[-1], int))]
    return None


def unlike(seen):
    return seen[0] != seen[1]


def has_claimed(seen):
    return seen[0][0]


class Asks(Asked):
    def alike(self, one, other):
        for pair in ((one, other), (other, one)):
            self.assertEqual(alike(*pair), ("alike",), pair)

    def unlike(self, one, other, length):
        for pair in ((one, other), (other, one)):
            told = alike(*pair)
            self.assertEqual((type(told), len(told), told[0]), (tuple, 2, "unlike"))
            history = told[1]
            self.assertIs(type(history), list)
            self.assertEqual(len(history), length, (pair, history))
            self.assertTrue(may_come(pair, history), (pair, history))
            self.assertTrue(unlike([walked(machine, history).seen() for machine in pair]), (pair, history))


class Alike(Asks):
    def test_itself(self):
        for machine in (machine_of(("tap", "t", 3)), machine_of(("press", "p", 9)), (state(),)):
            self.alike(machine, machine)

    def test_a_wait_cut_in_two(self):
        self.alike((state(100, wait="claim"),), (state(40, wait=1), state(60, wait="claim")))
        self.alike((state(up=1), state(100, down="claim", wait="give")),
                   (state(up=1), state(40, down="claim", wait=2), state(60, down="claim", wait="give")))
        self.unlike((state(100, wait="claim"),), (state(40, wait=1), state(61, wait="claim")), 1)
        self.unlike((state(up=1), state(100, down="claim", wait="give")),
                    (state(up=1), state(40, down="claim", wait=2), state(60, down="give", wait="give")), 3)
        # A word in the second half begins its wait anew, in the one as in the other.
        self.alike((state(100, wait="claim", out=0),), (state(40, wait=1, out=0), state(60, wait="claim", out=0)))
        self.unlike((state(100, wait="claim", out=0),), (state(40, wait=1, out=0), state(60, wait="claim", out=1)), 3)

    def test_a_state_told_twice_and_states_in_another_order(self):
        self.alike((state(out=0, up="claim"),), (state(out=1, up="claim"), state(out=0, up="claim")))
        self.alike((state(up=1), state(down=2), state(out="claim")), (state(up=2), state(out="claim"), state(down=1)))

    def test_steps_that_give_up_told_or_not(self):
        self.alike((state(up="claim", out="give"),), (state(up="claim"),))
        self.alike((state(up="give"),), (state(),))
        self.unlike((state(up=1), state(5, down="give", wait="give")), (state(up=1), state(5, wait="give")), 1)

    def test_steps_that_are_never_taken(self):
        # The finger is never up in state 0, so its step by "down" is none that counts.
        self.alike((state(up="claim", down="claim"),), (state(up="claim"),))
        self.alike((state(up="claim"), state(9, wait="claim")), (state(up="claim"),))
        # In a state without a step by "down" and a wait a finger that is up gives up.
        self.alike((state(up=1), state(out="claim")), (state(up="give"),))

    def test_who_waits_for_a_finger(self):
        self.unlike((state(up=1), state(down=0)), (state(up=1), state(9, wait=2), state(down=0)), 1)
        self.unlike((state(up=1), state(9, wait=2), state(down=0)), (state(up=1), state(9, wait=2), state()), 2)

    def test_claim_and_give(self):
        self.unlike((state(up="claim"),), (state(up="give"),), 1)
        self.unlike((state(9, wait="claim"),), (state(9, wait="give"),), 1)
        self.unlike((state(9, wait="claim"),), (state(8, wait="claim"),), 1)
        self.unlike((state(9, wait="claim"),), (state(),), 1)
        self.unlike((state(),), (state(out="claim"),), 1)

    def test_taps_and_presses(self):
        for times in (1, 2, 3):
            one = machine_of(("tap", "t", times), gap=50)
            self.unlike(one, machine_of(("press", "p", 50)), 1)
            for other in (1, 2, 3):
                if other != times:
                    self.unlike(one, machine_of(("tap", "t", other), gap=50), 2 * min(times, other) - 1)
            if times > 1:
                self.unlike(one, machine_of(("tap", "t", times), gap=51), 2)

    def test_far_waits(self):
        row = tuple(state(10000, wait=at + 1) for at in range(7))
        one, other = row + (state(10000, wait="claim"),), row + (state(9999, wait="claim"),)
        self.unlike(one, other, 1)
        self.assertIn(alike(one, other)[1], ([79999], [80000]))
        self.alike(one, row + (state(10000, wait="claim", up="give"),))

    def test_a_history_that_must_pass_over_a_wait_and_go_on(self):
        one = (state(10, wait=1, out="claim"), state(out=2), state(10, wait=3), state(up="claim"))
        other = one[:3] + (state(out="claim"),)
        self.unlike(one, other, 4)
        self.assertEqual(sum(word for word in alike(one, other)[1] if isinstance(word, int)), 20)

    def test_machines_of_eight_states_whose_shortest_history_has_fifteen_words(self):
        # By out round a ring of eight, and by one state into a ring of seven; just in the last state of each up claims.
        ends = {7: {"up": "claim"}}
        eight = tuple(state(out=(at + 1) % 8, **ends.get(at, {})) for at in range(8))
        seven = tuple(state(out=at % 7 + 1, **ends.get(at, {})) for at in range(8))
        self.unlike(eight, seven, 15)
        self.assertIn(alike(eight, seven), [("unlike", ["out"] * 14 + ["up"])])
        self.assertEqual(search((eight, seven), unlike, 15, ()), 15)

    def test_against_a_search_of_all_histories(self):
        small = [machine for machine in self.small()]
        for one, other in zip(small, small[1:] + small[:1]):
            length = search((one, other), unlike, 4, range(1, 5))
            told = alike(one, other)
            if length is None:
                self.assertTrue(told == ("alike",) or len(told[1]) > 4, (one, other))
            else:
                self.unlike(one, other, length)

    def small(self):
        for seed in range(150):
            draw = draws.drawn(seed)
            one = draws.machine(draw, 2, (1, 2))
            yield one
            # Near ones, too, which are often alike.
            yield one + (draws.machine(draw, 1, (1, 2))[0],) if draw.random() < 0.5 else one
        yield (state(),)

    def test_nothing_handed_in_is_changed_and_what_is_told_is_new(self):
        one, other = machine_of(("tap", "t", 3)), machine_of(("tap", "t", 2))
        history = alike(one, other)[1]
        history.append("x")
        self.assertEqual(alike(one, other), ("unlike", ["up", "down", "up"]))
        self.assertEqual(one, machine_of(("tap", "t", 3)))


class Claimed(Asks):
    def claims(self, machine, length):
        history = claimed(machine)
        if length is None:
            self.assertIsNone(history)
            return
        self.assertIs(type(history), list)
        self.assertEqual(len(history), length)
        self.assertTrue(may_come((machine,), history))
        self.assertEqual(walked(machine, history).state, "claim")
        self.assertNotEqual(walked(machine, history[:-1]).state, "claim")

    def test_taps_and_presses(self):
        self.assertEqual(claimed(machine_of(("tap", "t", 1))), ["up"])
        self.assertEqual(claimed(machine_of(("tap", "t", 3))), ["up", "down", "up", "down", "up"])
        self.assertEqual(claimed(machine_of(("press", "p", 700))), [700])

    def test_none_where_there_is_none(self):
        for machine in ((state(),), (state(out=0, up=0),), (state(9, wait="give"),), (state(down="claim"),),
                        (state(up=1), state(out="claim")), (state(), state(up="claim")),
                        (state(up=1), state(9, wait="give"), state(up="claim"))):
            self.claims(machine, None)

    def test_by_each_word(self):
        self.claims((state(out="claim"),), 1)
        self.claims((state(up=1), state(down="claim")), 2)
        self.claims((state(up=1), state(9, wait="claim")), 2)
        self.claims((state(9, wait=1), state(9, wait=2), state(9, wait="claim")), 1)
        self.claims((state(9, wait=1), state(9, wait=2), state(up="claim")), 2)

    def test_its_own_each_time(self):
        machine = machine_of(("tap", "t", 2))
        claimed(machine).clear()
        self.assertEqual(claimed(machine), ["up", "down", "up"])

    def test_against_a_search_of_all_histories(self):
        for seed in range(200):
            machine = draws.machine(draws.drawn(seed), 3, (1, 2, 3))
            length = search((machine,), has_claimed, 4, range(1, 10))
            if length is None:
                self.assertTrue(claimed(machine) is None or len(claimed(machine)) > 4, machine)
            else:
                self.claims(machine, length)


class Led(Asks):
    def test_each_word_is_a_touch(self):
        self.assertEqual(led(["out", "out", "up", "down", "up"], 5, 6, 70, 3), [
            (70, 3, "down", 5, 6), (70, 3, "move", 24, 6), (70, 3, "move", 24, 6), (70, 3, "up", 5, 6),
            (70, 3, "down", 5, 6), (70, 3, "up", 5, 6),
        ])

    def test_times_pass(self):
        self.assertEqual(led([4, "out", 10, 3, "up", 1, "down", 1000], -5, 0, 0, 0), [
            (0, 0, "down", -5, 0), (4, 0, "move", 14, 0), (17, 0, "up", -5, 0), (18, 0, "down", -5, 0),
        ])

    def test_no_words_are_a_down(self):
        self.assertEqual(led([], 1, 2, 3, 4), [(3, 4, "down", 1, 2)])
        self.assertEqual(led([700], 1, 2, 3, 4), [(3, 4, "down", 1, 2)])

    def test_by_slop(self):
        for slop in (0, 18, 1000):
            self.assertEqual(led(["out"], 0, 0, 0, 0, slop=slop)[1], (0, 0, "move", slop + 1, 0))
        self.assertEqual(led(["out"], 0, 0, 0, 0), led(["out"], 0, 0, 0, 0, slop=18))
        with self.assertRaises(TypeError):
            led(["out"], 0, 0, 0, 0, 5)

    def test_nothing_handed_in_is_changed(self):
        history = [4, "out", "up"]
        led(history, 0, 0, 0, 0)
        self.assertEqual(history, [4, "out", "up"])


class Smaller(Asks):
    def is_small(self, machine, most):
        """Whether a machine's smaller one is as the document asks, and has so many states at most."""
        less = smaller(machine)
        self.assertIs(is_machine(less), True)
        self.assertEqual(alike(machine, less), ("alike",))
        self.assertLessEqual(len(less), min(most, len(machine)), (machine, less))
        self.assertEqual(self.come_to(less), set(range(len(less))), less)
        for gone, other in itertools.permutations(range(len(less)), 2):
            merged = together(less, gone, other)
            self.assertFalse(is_machine(merged) and alike(less, merged) == ("alike",), (machine, less, gone, other))
        self.assertEqual(len(smaller(less)), len(less))
        return less

    def come_to(self, machine):
        found, waiting = {0}, [0]
        while waiting:
            for _, goal in machine[waiting.pop()][1]:
                if isinstance(goal, int) and goal not in found:
                    found.add(goal)
                    waiting.append(goal)
        return found

    def test_states_that_nothing_comes_to(self):
        self.is_small((state(up="claim"), state(up=1), state(9, wait="claim")), 1)
        self.is_small((state(up=3), state(up=2), state(down=1), state(5, wait="claim")), 2)

    def test_states_that_can_be_put_together(self):
        self.is_small((state(out=1, up="claim"), state(out=2, up="claim"), state(out=0, up="claim")), 1)
        self.is_small((state(up=1), state(50, down=2, wait="give"), state(up=3), state(50, down=0, wait="give")), 2)
        self.is_small((state(up=1), state(down=2), state(out="claim", up=3), state(down=2)), 3)

    def test_the_beginning_too(self):
        # 0 and 1 are alike, and what is left out may be the one with which it begins.
        self.is_small((state(out=1, up=2), state(out=1, up=2), state(9, wait="claim")), 2)

    def test_what_is_small_stays_as_many(self):
        for wish in (("tap", "t", 1), ("tap", "t", 2), ("tap", "t", 3), ("press", "p", 9)):
            machine = machine_of(wish)
            self.assertEqual(len(self.is_small(machine, len(machine))), len(machine))
        self.is_small((state(),), 1)

    def test_not_where_waits_would_come_back(self):
        # Two waits of one length behind one another are no ring; put together they were.
        self.assertEqual(len(self.is_small((state(9, wait=1), state(9, wait="claim")), 2)), 2)

    def test_drawn_ones(self):
        for seed in range(250):
            draw = draws.drawn(seed)
            machine = draws.machine(draw, draw.choice([2, 4, 8]), draw.choice([(1, 2), (5, 10, 15)]))
            self.is_small(machine, 8)

    def test_the_machine_stays(self):
        machine = (state(up="claim"), state(up=1))
        smaller(machine)
        self.assertEqual(machine, (state(up="claim"), state(up=1)))


def together(machine, gone, other):
    """A machine in which a state is left out, and all steps to it, and the beginning, lead to another one."""
    order = [number for number in range(len(machine)) if number != gone]
    if gone == 0:
        order.remove(other)
        order.insert(0, other)
    goals = {number: at for at, number in enumerate(order)}
    goals[gone] = goals[other]
    return tuple((machine[number][0], tuple((word, goals.get(goal, goal)) for word, goal in machine[number][1]))
                 for number in order)


class InScenes(Asks):
    def read(self, machine, history):
        """What a reader of the made wish alone tells of a history, word by word."""
        found, made, moment = alone(("made", "m", machine)), None, 0
        made = reader(found, ("down", 0))
        told = [(made.told(), made.how(0, "m")[:2])]
        touches = led(history, 0, 0, 0, 0)[1:]
        for word in history:
            if isinstance(word, int):
                moment += word
                made.go(moment)
            else:
                made.put(touches.pop(0))
            told.append((made.told(), made.how(0, "m")[:2], made.labels(made.many_strokes() - 1)))
        return told, made

    def test_unlike_ones_are_told_apart(self):
        count = 0
        for seed in range(150):
            draw = draws.drawn(seed)
            one, other = draws.machine(draw, 3, (5, 10)), draws.machine(draw, 3, (5, 10))
            told = alike(one, other)
            if told == ("alike",):
                continue
            count += 1
            history = told[1]
            (first, a), (second, b) = self.read(one, history), self.read(other, history)
            self.assertEqual(first[:-1], second[:-1])
            if first == second:
                # Just one of them waits for a finger; the next down is that one's, and a new hope's of the other.
                at = a.moment()
                for made in (a, b):
                    made.put((at, 0, "down", 0, 0))
                    made.put((at, 0, "lost", 0, 0))
                self.assertNotEqual(a.how(0, "m")[:2], b.how(0, "m")[:2])
        self.assertGreater(count, 80)

    def test_alike_ones_put_for_one_another_tell_the_same(self):
        changed = 0
        for seed in range(120):
            draw = draws.drawn(seed)
            found = draws.scene(draw, draw.choice([0.2, 0.5]))
            rows = draws.touches(draw, 40, 3)
            first = swapped(found[0], lambda wish: (*wish[:2], smaller(cut(wish[2]))) if wish[0] == "made" else wish)
            changed += first != found[0]
            one, other = Reader(found), Reader((first, *found[1:]))
            for row in rows:
                self.assertEqual(one.put(row), other.put(row))
            self.assertEqual(one.go(10 ** 6), other.go(10 ** 6))
            self.assertEqual([[(label, how[:2]) for label, how in sheet] for sheet in papers(one)],
                             [[(label, how[:2]) for label, how in sheet] for sheet in papers(other)])
        self.assertGreater(changed, 40)

    def test_touches_of_claims_are_read_as_wins(self):
        for seed in range(100):
            machine = draws.machine(draws.drawn(seed), 4, (5, 10, 300))
            history = claimed(machine)
            if history is not None:
                made = Reader(alone(("made", "m", machine)))
                touches = led(history, 7, 7, 0, 5)
                self.assertTrue(all(is_touch(row) for row in touches))
                for row in touches:
                    made.put(row)
                made.go(10 ** 6)
                self.assertEqual(made.how(0, "m")[0], "won", (machine, history))


def cut(machine):
    """A machine alike, in which the first wait that can be is cut in two."""
    if len(machine) == 8:
        return machine
    for at, (wait, steps) in enumerate(machine):
        if wait is not None and wait > 1:
            half = (wait // 2, tuple((word, len(machine) if word == "wait" else goal) for word, goal in steps))
            return machine[:at] + (half,) + machine[at + 1:] + ((wait - wait // 2, steps),)
    return machine


if __name__ == "__main__":
    unittest.main()
