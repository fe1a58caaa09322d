"""Machines: what is one [34], the step of a state by a word [35], taps and presses as machines [36]."""

import itertools
import unittest

from strokeguess.machines import is_machine, machine_of, stepped
from things import JUNK, SIXTY, spoiled

WORDS = ("out", "up", "down", "wait")


def plain_machine(count):
    """A machine of so many states that do nothing."""
    return ((None, ()),) * count


def waiting(*goals):
    """A machine whose states have just a step by "wait", to these."""
    return tuple((1, (("wait", goal),)) for goal in goals)


class Asked(unittest.TestCase):
    def right(self, *things):
        for thing in things:
            with self.subTest(thing=thing):
                self.assertIs(is_machine(thing), True)

    def wrong(self, *things):
        for thing in things:
            with self.subTest(thing=thing):
                self.assertIs(is_machine(thing), False)


class IsMachine(Asked):
    def test_one_to_eight_states(self):
        self.right(*[plain_machine(count) for count in range(1, 9)])
        self.wrong((), plain_machine(9), plain_machine(10))

    def test_a_state_has_a_wait_and_steps(self):
        self.right(((None, ()),), ((1, (("wait", "give"),)),))
        self.wrong(((None,),), ((),), ((None, (), ()),), (None,), ("aa",), (0,))

    def test_waits_to_their_bounds(self):
        for wait in (1, 2, 9999, 10000):
            self.right(((wait, (("wait", "claim"),)),))
        for wait in (0, -1, 10001, SIXTY, True, False, "1", "", (), (1,), [1]):
            self.wrong(((wait, (("wait", "claim"),)),), ((wait, ()),))

    def test_wait_is_a_step_just_where_there_is_a_wait(self):
        self.right(((5, (("up", 0), ("wait", "claim"))),), ((None, (("up", 0),)),))
        self.wrong(
            ((None, (("wait", "claim"),)),), ((None, (("up", 0), ("wait", "claim"))),),
            ((5, ()),), ((5, (("up", "claim"), ("down", 0), ("out", 0))),),
            ((None, ()), (7, (("up", 1),))),
        )

    def test_all_words_in_any_order(self):
        for words in itertools.permutations(WORDS):
            self.right(((9, tuple((word, "claim") for word in words)),))
        for count in range(4):
            for words in itertools.combinations(("out", "up", "down"), count):
                self.right(((None, tuple((word, 0) for word in words)),))

    def test_no_word_twice(self):
        for word in ("out", "up", "down"):
            self.wrong(((None, ((word, 0), (word, 0))),), ((None, ((word, 0), (word, "claim"))),))
        self.wrong(
            ((5, (("wait", "claim"), ("wait", "claim"))),),
            ((5, (("wait", "claim"), ("up", 0), ("down", 0), ("out", 0), ("up", 0))),),
        )

    def test_no_other_word(self):
        for word in ("move", "lost", "claim", "give", "Up", "up ", "", None, 0, True, (), ["up"], ("up",)):
            self.wrong(((None, ((word, 0),)),))

    def test_a_step_is_a_word_and_a_next(self):
        self.wrong(
            ((None, (("up",),)),), ((None, (("up", 0, 0),)),), ((None, ((),)),), ((None, ("up",)),),
            ((None, (None,)),), ((None, ("up", 0)),), ((None, ((0, "up"),)),), ((None, ("ab",)),),
        )

    def test_next_is_a_number_of_this_machine(self):
        for count in range(1, 9):
            for goal in range(count):
                self.right(((None, (("up", goal),)),) + plain_machine(count - 1))
            for goal in (-1, -count, count, count + 1, SIXTY, -SIXTY):
                self.wrong(((None, (("up", goal),)),) + plain_machine(count - 1))

    def test_next_is_claim_or_give_or_no_other_thing(self):
        for word in ("out", "up", "down"):
            self.right(((None, ((word, "claim"),)),), ((None, ((word, "give"),)),))
            for goal in (True, False, None, "wait", "up", "", "Claim", "0", (), (0,), [0], ["claim"]):
                self.wrong(((None, ((word, goal),)),), ((None, ((word, goal),)), (None, ())))

    def test_waits_that_come_back(self):
        for count in range(1, 9):
            ring = tuple(range(1, count)) + (0,)
            self.wrong(waiting(*ring))
            # A row into a ring is as wrong, also where state 0 is no part of the ring.
            for back in range(count):
                self.wrong(waiting(*ring[:-1], back))
            self.right(waiting(*ring[:-1], "claim"), waiting(*ring[:-1], "give"))
        self.wrong(waiting("claim", "give", 2), waiting("claim", 3, "claim", 1), waiting(7, 0, 1, 2, 3, 4, 5, 6))
        self.right(waiting("claim", 0, 1, 2, 3, 4, 5, 6), waiting(1, "give", 1, 1, 2), waiting(1, 2, 3, "give"))

    def test_a_ring_that_another_word_opens_is_allowed(self):
        self.right(
            ((None, (("up", 0), ("down", 0), ("out", 0))),),
            ((3, (("wait", 1),)), (None, (("down", 0),))),
            ((3, (("wait", 1), ("up", 0))), (4, (("wait", 2), ("down", 1))), (None, (("out", 0),))),
            ((3, (("up", 0), ("wait", "claim"))),),
        )
        self.wrong(((3, (("wait", 1), ("up", "claim"))), (4, (("down", "give"), ("wait", 0)))))

    def test_lists_in_the_places_of_tuples(self):
        self.right(((None, (("up", 0),)),))
        self.wrong([(None, (("up", 0),))], ([None, (("up", 0),)],), ((None, [("up", 0)]),), ((None, (["up", 0],)),))
        self.wrong(((None, []),))

    def test_anything_is_told_a_truth(self):
        for thing in JUNK:
            with self.subTest(thing=thing):
                self.assertIs(is_machine(thing), thing == ((None, ()),) and isinstance(thing, tuple))
        good = ((None, (("up", 1),)), (300, (("down", 0), ("wait", "give"))))
        for thing in spoiled(good):
            self.assertIn(is_machine(thing), (True, False))
            self.assertIsInstance(is_machine(thing), bool)

    def test_one_state_in_many_places_is_soon_told(self):
        self.wrong(plain_machine(100000), ((None, (("up", 0),) * 100000),))

    def test_against_a_plain_search_for_rings(self):
        goals = (0, 1, 2, "claim", "give", None)
        for row in itertools.product(goals, repeat=3):
            machine = tuple((None, ()) if goal is None else (2, (("wait", goal),)) for goal in row)
            self.assertIs(is_machine(machine), not any(rings(row, first) for first in range(3)), row)


def rings(row, first):
    """Whether one goes on without an end from here."""
    at = first
    for _ in range(10):
        at = row[at]
        if at in ("claim", "give", None):
            return False
    return True


class Stepped(unittest.TestCase):
    MACHINE = (
        (7, (("wait", 2), ("up", 1), ("out", "claim"), ("down", "give"))),
        (None, (("down", 0),)),
        (None, ()),
        (9, (("up", "give"), ("wait", "claim"))),
    )

    def test_a_word_with_a_step_leads_there(self):
        told = [stepped(self.MACHINE, 0, word) for word in WORDS]
        self.assertEqual(told, ["claim", 1, "give", 2])
        self.assertEqual(stepped(self.MACHINE, 1, "down"), 0)
        self.assertIsInstance(stepped(self.MACHINE, 1, "down"), int)
        self.assertEqual(stepped(self.MACHINE, 3, "up"), "give")
        self.assertEqual(stepped(self.MACHINE, 3, "wait"), "claim")

    def test_out_and_up_without_a_step_give_up(self):
        self.assertEqual([stepped(self.MACHINE, 1, word) for word in ("out", "up")], ["give", "give"])
        self.assertEqual([stepped(self.MACHINE, 2, word) for word in ("out", "up")], ["give", "give"])
        self.assertEqual(stepped(self.MACHINE, 3, "out"), "give")

    def test_down_and_wait_without_a_step_are_none(self):
        self.assertIsNone(stepped(self.MACHINE, 1, "wait"))
        self.assertIsNone(stepped(self.MACHINE, 2, "wait"))
        self.assertIsNone(stepped(self.MACHINE, 2, "down"))
        self.assertIsNone(stepped(self.MACHINE, 3, "down"))

    def test_each_word_alone_leads_to_each_kind_of_next(self):
        for word in WORDS:
            for goal in (0, 1, "claim", "give"):
                machine = ((5 if word == "wait" else None, ((word, goal),)), (None, ()))
                for asked in WORDS:
                    other = "give" if asked in ("out", "up") else None
                    self.assertEqual(stepped(machine, 0, asked), goal if asked == word else other)

    def test_the_last_of_eight_states(self):
        machine = plain_machine(7) + ((None, (("out", 7), ("up", 0))),)
        self.assertEqual([stepped(machine, 7, word) for word in WORDS], [7, 0, None, None])

    def test_a_number_beyond_raises_no_error(self):
        for state in (-1, 4, 5):
            told = [stepped(self.MACHINE, state, word) for word in WORDS]
            self.assertEqual(told, ["give", "give", None, None])


class MachineOf(unittest.TestCase):
    def machines(self):
        """Each tap and press of the bounds, with the gap and its machine."""
        wishes = [("tap", "t", count) for count in (1, 2, 3)] + [("press", "p", wait) for wait in (1, 500, 10000)]
        for wish in wishes:
            yield wish, 300, machine_of(wish)
            for gap in (1, 2, 300, 10000):
                yield wish, gap, machine_of(wish, gap=gap)

    def test_each_is_a_machine(self):
        for wish, gap, machine in self.machines():
            with self.subTest(wish, gap=gap):
                self.assertIs(is_machine(machine), True)

    def test_left_out_the_gap_is_300(self):
        for wish, gap, machine in self.machines():
            if gap == 300:
                self.assertEqual(machine, machine_of(wish, gap=300))

    def test_the_gap_is_handed_in_by_name(self):
        with self.assertRaises(TypeError):
            machine_of(("tap", "t", 2), 400)

    def test_a_tap_claims_at_its_last_up(self):
        for wish, gap, machine in self.machines():
            if wish[0] == "tap":
                with self.subTest(wish, gap=gap):
                    self.tap_steps(machine, wish[2], gap)

    def tap_steps(self, machine, count, gap):
        state = 0
        for tap in range(1, count + 1):
            self.assertIsNone(machine[state][0])
            self.assertEqual(stepped(machine, state, "out"), "give")
            self.assertIsNone(stepped(machine, state, "wait"))
            if tap == count:
                self.assertEqual(stepped(machine, state, "up"), "claim")
                return
            state = stepped(machine, state, "up")
            self.assertIsInstance(state, int)
            self.assertEqual(machine[state][0], gap)
            self.assertEqual(stepped(machine, state, "wait"), "give")
            state = stepped(machine, state, "down")
            self.assertIsInstance(state, int)

    def test_a_press_claims_at_its_wait(self):
        for wish, gap, machine in self.machines():
            if wish[0] == "press":
                with self.subTest(wish, gap=gap):
                    self.assertEqual(machine[0][0], wish[2])
                    self.assertEqual([stepped(machine, 0, word) for word in ("wait", "up", "out")],
                                     ["claim", "give", "give"])

    def test_the_wish_stays_and_machines_are_told_alike(self):
        wish = ("tap", "t", 3)
        self.assertEqual(machine_of(wish, gap=9), machine_of(wish, gap=9))
        self.assertEqual(wish, ("tap", "t", 3))

    def test_the_label_changes_nothing(self):
        for kind, more in (("tap", 1), ("tap", 3), ("press", 7)):
            self.assertEqual(machine_of((kind, "a", more)), machine_of((kind, "other", more)))

    def test_each_history_is_read_as_by_the_wish(self):
        for wish in (("tap", "t", 1), ("tap", "t", 2), ("tap", "t", 3), ("press", "p", 3), ("press", "p", 1)):
            for gap in (1, 3):
                machine = machine_of(wish, gap=gap)
                for history in itertools.product(("out", "up", "down", 1, 2), repeat=7):
                    self.assertEqual(by_machine(machine, history), by_wish(wish, gap, history), (wish, gap, history))


def by_wish(wish, gap, history):
    """When a lone tap or press claims or gives up, and waits for a finger, told by [13], [14] and [18]."""
    kind, _, more = wish
    told, now, taps, down, ends = [], 0, 0, True, more if kind == "press" else None
    for word in history:
        if isinstance(word, int):
            now += word
            if ends is not None and now >= ends:
                return told + [(ends, "claim" if kind == "press" else "give")]
        elif word == "down":
            if not down:
                down, ends = True, None
        elif not down:
            continue
        elif word == "out":
            return told + [(now, "give")]
        elif kind == "press":
            return told + [(now, "give")]
        else:
            taps, down, ends = taps + 1, False, now + gap
            if taps == more:
                return told + [(now, "claim")]
        told.append(not down)
    return told


def by_machine(machine, history):
    """The same of the machine's hope, told by [35] and [18]."""
    told, now, down = [], 0, True
    state, since = 0, 0
    for word in history:
        if isinstance(word, int):
            now += word
            while machine[state][0] is not None and since + machine[state][0] <= now:
                since += machine[state][0]
                goal = stepped(machine, state, "wait")
                if not isinstance(goal, int):
                    return told + [(since, goal)]
                state = goal
        elif (word == "down") != down and not (word == "down" and stepped(machine, state, "down") is None):
            down = word == "down" or word == "out"
            goal = stepped(machine, state, word)
            if not isinstance(goal, int):
                return told + [(now, goal)]
            state, since = goal, now
            if not down and machine[state][0] is None and stepped(machine, state, "down") is None:
                return told + [(now, "give")]
        elif word != "down" and not down:
            continue
        told.append(not down and stepped(machine, state, "down") is not None)
    return told


if __name__ == "__main__":
    unittest.main()
