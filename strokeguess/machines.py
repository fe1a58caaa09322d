"""Machines: what a made wish's hope does at each word, state by state."""

from strokeguess.kinds import are_unlike, is_between, is_row

MOST_STATES = 8
LONGEST_WAIT = 10000
STEP_WORDS = ("out", "up", "down", "wait")
ENDS = ("claim", "give")


def is_machine(thing):
    """Tell of anything whether it is a machine."""
    if not isinstance(thing, tuple) or not 1 <= len(thing) <= MOST_STATES:
        return False
    if not all([_is_state(state, len(thing)) for state in thing]):
        return False
    return not any([_waits_on(thing, state) for state in range(len(thing))])


def machine_of(wish, *, gap=300):
    """Make the machine that reads as a tap or press does, by a reader's gap."""
    kind, _, count = wish
    if kind == "press":
        return ((count, (("wait", "claim"),)),)
    states = []
    for _ in range(count - 1):
        states.append((None, (("up", len(states) + 1),)))
        states.append((gap, (("down", len(states) + 1), ("wait", "give"))))
    states.append((None, (("up", "claim"),)))
    return tuple(states)


def stepped(machine, state, word):
    """Tell where a word leads to from a state: a state's number, "claim", "give" or None."""
    # A number beyond the last state is none that a step leads to; it has no steps.
    steps = machine[state][1] if 0 <= state < len(machine) else ()
    for known, goal in steps:
        if known == word:
            return goal
    return "give" if word in ("out", "up") else None


def _is_state(thing, many):
    """Tell whether a thing is a state of a machine of so many states."""
    if not is_row(thing, 2):
        return False
    wait, steps = thing
    if wait is not None and not is_between(wait, 1, LONGEST_WAIT):
        return False
    if not isinstance(steps, tuple) or not all([_is_step(step, many) for step in steps]):
        return False
    words = [step[0] for step in steps]
    return are_unlike(words) and ("wait" in words) == (wait is not None)


def _is_step(thing, many):
    """Tell whether a thing is a step within a machine of so many states."""
    if not is_row(thing, 2):
        return False
    word, goal = thing
    return word in STEP_WORDS and (goal in ENDS or is_between(goal, 0, many - 1))


def _waits_on(machine, state):
    """Tell whether one goes on without an end from a state by "wait" alone."""
    # After as many steps as there are states one was in some state twice, so in a ring.
    for _ in range(len(machine)):
        state = stepped(machine, state, "wait")
        if state is None or state in ENDS:
            return False
    return True
