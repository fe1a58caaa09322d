"""Likeness: which machines are alike, histories behind which one claims, and smaller machines that are alike.

A machine is at a state's number, or at "claim" or "give" where it has come to an end. Behind a word each machine has
just come into its state, so where they are, and whether the finger is up, tells all that can come.
"""

from strokeguess.machines import ENDS, is_machine, stepped


def alike(machine, other):
    """Tell ("alike",), or ("unlike", history) with a shortest history that tells two machines apart."""
    history = _shortest((machine, other), _are_unlike)
    return ("alike",) if history is None else ("unlike", history)


def claimed(machine):
    """Tell a shortest history behind which a machine has claimed, None where there is none."""
    return _shortest((machine,), _has_claimed)


def led(history, x, y, moment, finger, *, slop=18):
    """List the touches of a history, from a place and a moment on, by a finger."""
    touches = [(moment, finger, "down", x, y)]
    for word in history:
        if word == "out":
            touches.append((moment, finger, "move", x + slop + 1, y))
        elif word in ("up", "down"):
            touches.append((moment, finger, word, x, y))
        else:
            moment += word
    return touches


def smaller(machine):
    """Make a machine that is alike, without states that nothing comes to, or that can be put together."""
    found = _come_to(machine)
    less = _put_together(found)
    while less is not None:
        found = _come_to(less)
        less = _put_together(found)
    return found


def _are_unlike(looks):
    return looks[0] != looks[1]


def _has_claimed(looks):
    return looks[0] == "claim"


def _shortest(machines, is_wanted):
    """Tell a shortest history behind which what is seen of the machines is wanted, or None."""
    start = tuple([0 for _ in machines])
    seen = {(start, False, False): True}
    # Rows of where the machines are, whether the finger is up, whether time passed last, and the history to there.
    queue = [(start, False, False, [])]
    at = 0
    while at < len(queue):
        states, is_up, has_passed, history = queue[at]
        at += 1
        looks = _looks(machines, states, is_up)
        if is_wanted(looks):
            return history
        for goals, word in _next_ones(machines, states, looks, is_up, has_passed):
            key = (goals, _is_up_behind(word, is_up), isinstance(word, int))
            if key not in seen:
                seen[key] = True
                queue.append((*key, [*history, word]))
    return None


def _looks(machines, states, is_up):
    """Tell what is seen of each machine: its end, whether it waits for a finger, or that it just stands."""
    return [_look(machine, state, is_up) for machine, state in zip(machines, states)]


def _look(machine, state, is_up):
    if state in ENDS:
        return state
    return "waits" if is_up and stepped(machine, state, "down") is not None else "stands"


def _next_ones(machines, states, looks, is_up, has_passed):
    """List where the machines come to by each word, and by each time at which a wait ends, with that."""
    if any([state in ENDS for state in states]):
        return []
    words = [] if is_up else ["out", "up"]
    if "waits" in looks:
        words = ["down"]
    found = [(_stepped_all(machines, states, word, word == "up"), word) for word in words]
    # Two times behind one another are one time, so a shortest history has no such.
    return found if has_passed else found + _passed(machines, states, is_up)


def _is_up_behind(word, is_up):
    """Tell whether the finger is up behind a word or a time."""
    return word == "up" or is_up and word != "down"


def _stepped_all(machines, states, word, is_up):
    """Tell where the machines come to by a word, behind which the finger is up, or not."""
    return tuple([_entered(machine, stepped(machine, state, word), is_up) for machine, state in zip(machines, states)])


def _entered(machine, goal, is_up):
    """Tell where a machine is that a step leads to a goal: where nothing can come any more it gives up."""
    if goal in ENDS:
        return goal
    is_dead = machine[goal][0] is None and stepped(machine, goal, "down") is None
    return "give" if is_up and is_dead else goal


def _passed(machines, states, is_up):
    """List where the machines come to by each time at which a wait ends, with that time."""
    rows = [_ends_of(machine, state, is_up) for machine, state in zip(machines, states)]
    times = sorted(set([time for row in rows for time, _ in row]))
    return [(tuple([_at_time(row, time, state) for row, state in zip(rows, states)]), time) for time in times]


def _ends_of(machine, state, is_up):
    """List the times at which a machine's waits end, no word being told, each with where it comes to."""
    found = []
    time = 0
    while state not in ENDS and machine[state][0] is not None:
        time += machine[state][0]
        state = _entered(machine, stepped(machine, state, "wait"), is_up)
        found.append((time, state))
    return found


def _at_time(row, time, state):
    """Tell where a machine is at a time, by its row of ends; ahead of them all it is in its state."""
    for end, goal in row:
        if end <= time:
            state = goal
    return state


def _come_to(machine):
    """Make a machine of those states alone that are come to from 0 by steps."""
    order = [0]
    at = 0
    while at < len(order):
        _, steps = machine[order[at]]
        for _, goal in steps:
            if goal not in ENDS and goal not in order:
                order.append(goal)
        at += 1
    return _renumbered(machine, {state: number for number, state in enumerate(order)})


def _put_together(machine):
    """Make a machine that is alike by putting two states together, None where no two can be."""
    states = range(len(machine))
    for gone, other in [(one, other) for one in states for other in states if one != other]:
        less = _without(machine, gone, other)
        if is_machine(less) and alike(machine, less) == ("alike",):
            return less
    return None


def _without(machine, gone, other):
    """Make a machine in which a state is left out, and what led to it leads to another one."""
    begin = other if gone == 0 else 0
    order = [begin] + [state for state in range(len(machine)) if state not in (begin, gone)]
    numbers = {state: number for number, state in enumerate(order)}
    numbers[gone] = numbers[other]
    return _renumbered(machine, numbers)


def _renumbered(machine, numbers):
    """Make a machine whose states have other numbers; of several that have one, the first told in the dict stands."""
    states = {}
    for state, number in numbers.items():
        if number not in states:
            wait, steps = machine[state]
            states[number] = (wait, tuple([(word, goal if goal in ENDS else numbers[goal]) for word, goal in steps]))
    return tuple([states[number] for number in range(len(states))])
