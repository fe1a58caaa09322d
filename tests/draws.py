"""Drawn scenes, machines and histories, by seeds."""

import random

from strokeguess.machines import is_machine
from strokeguess.scenes import is_scene, wishes_of

LETTERS = "abcdefghijklmnopqrstuvwxyz"


def machine(draw, most=4, waits=(1, 5, 20, 50, 100, 300)):
    """A drawn machine of so many states at most."""
    while True:
        count = draw.randint(1, most)
        states = []
        for _ in range(count):
            words = [word for word in ("out", "up", "down") if draw.random() < 0.6]
            wait = draw.choice(waits) if draw.random() < 0.4 else None
            steps = [(word, goal(draw, count)) for word in words]
            if wait is not None:
                steps.insert(draw.randint(0, len(steps)), ("wait", goal(draw, count)))
            states.append((wait, tuple(steps)))
        if is_machine(tuple(states)):
            return tuple(states)


def goal(draw, count):
    return draw.choice(["claim", "give"] + list(range(count)) * 2)


def wish(draw, label):
    kind = draw.choice(["tap", "tap", "press", "pull", "pull", "spread", "turn", "made", "made"])
    if kind == "tap":
        return (kind, label, draw.randint(1, 3))
    if kind == "press":
        return (kind, label, draw.choice([1, 20, 50, 100, 300, 400]))
    if kind == "pull":
        return (kind, label, draw.choice(["any", "across", "along"]))
    if kind == "made":
        return (kind, label, machine(draw))
    return (kind, label)


def part(draw, depth, names, labels, size):
    wide, high = size
    left, top = draw.randint(-10, 40), draw.randint(-10, 40)
    box = (left, top, max(1, wide - draw.randint(0, 40)), max(1, high - draw.randint(0, 40)))
    shelf = None
    if draw.random() < 0.5:
        shelf = (draw.choice(["across", "along"]), -draw.randint(0, 40), draw.randint(0, 40))
    wishes = tuple(wish(draw, labels.pop(0)) for _ in range(draw.choice([0, 1, 2, 3, 4])) if labels)
    name = names.pop(0)
    parts = []
    if depth < 4:
        parts = [part(draw, depth + 1, names, labels, (box[2], box[3])) for _ in range(draw.choice([0, 1, 1, 2]))
                 if len(names) > 8]
    return (name, box, draw.choice([None, "hear", "stop"]), shelf, wishes, tuple(parts))


def scene(draw, pairs=0.5):
    """A drawn scene, with wishes in it."""
    while True:
        first = part(draw, 0, ["p" + sign for sign in LETTERS], list(LETTERS), (200, 200))
        labels = [one[1] for _, one in wishes_of((first, (), ()))]
        chosen = [(one, other) for at, one in enumerate(labels) for other in labels[at + 1:]]
        beside = tuple(draw.choice([pair, pair[::-1]]) for pair in chosen if draw.random() < pairs / 2)
        order = list(labels)
        draw.shuffle(order)
        heeds = tuple((one, other) for at, one in enumerate(order) for other in order[at + 1:]
                      if draw.random() < pairs)
        found = (first, beside, heeds)
        if labels and is_scene(found):
            return found


def touches(draw, many, fingers=3, reach=120, hurry=60):
    """A drawn right row of touches."""
    found, down, moment = [], {}, draw.randint(0, 5)
    for _ in range(many):
        if draw.random() < 0.8:
            moment += draw.choice([0, 1, 10, draw.randint(0, hurry), draw.randint(0, 6 * hurry)])
        finger = draw.randrange(fingers)
        if finger not in down:
            x, y = draw.randint(-5, reach), draw.randint(-5, reach)
            word = "down"
        else:
            x, y = down[finger]
            if draw.random() < 0.6:
                step = draw.choice([3, 10, 25, 80])
                x, y = x + draw.randint(-step, step), y + draw.randint(-step, step)
            word = draw.choice(["move", "move", "up", "up", "lost"] if draw.random() < 0.3 else ["move", "up"])
        found.append((moment, finger, word, x, y))
        down[finger] = (x, y)
        if word in ("up", "lost"):
            del down[finger]
    return found


def drawn(seed):
    return random.Random(seed)
