"""Scenes: parts within one another, with their wishes, shelves and ears."""

from strokeguess.kinds import FARTHEST, are_unlike, is_between, is_coordinate, is_row, is_word
from strokeguess.machines import LONGEST_WAIT, is_machine

MOST_TAPS = 3
SHELF_WAYS = ("across", "along")
PULL_WAYS = ("any", "across", "along")
EARS = (None, "hear", "stop")

MOST_WISHES = 6
MOST_PARTS = 30
DEEPEST = 6

# Where a part, a tuple, has these.
NAME = 0
BOX = 1
EAR = 2
SHELF = 3
PARTS = 5


def is_scene(thing):
    """Tell of anything whether it is a scene."""
    if not is_row(thing, 3):
        return False
    part, beside, heeds = thing
    if not _is_tree(part):
        return False
    labels = [wish[1] for name, wish in wishes_of(thing)]
    if not are_unlike(parts_of(thing)) or not are_unlike(labels):
        return False
    known = {label: True for label in labels}
    if not _are_pairs(beside, known) or not _are_pairs(heeds, known):
        return False
    # Beside goes both ways, so a pair told the other way about is told twice.
    if not are_unlike([tuple(sorted(pair)) for pair in beside]):
        return False
    return are_unlike(heeds) and not _comes_back(heeds)


def parts_of(scene):
    """List the names of the parts: a part's, then those of all in it, then the next one's."""
    return [part[NAME] for part in _with_inner(scene[0])]


def wishes_of(scene):
    """List the wishes, each with its part's name, in the order of the parts."""
    found = []
    for name, _, _, _, wishes, _ in _with_inner(scene[0]):
        found.extend([(name, wish) for wish in wishes])
    return found


def boxes_of(scene):
    """Tell of each part's name its box."""
    return {part[NAME]: part[BOX] for part in _with_inner(scene[0])}


def insides_of(scene):
    """Tell of each part's name the list of its own name and those of all parts in it."""
    return {part[NAME]: [inner[NAME] for inner in _with_inner(part)] for part in _with_inner(scene[0])}


def ears_of(scene):
    """Tell of each part's name its ear."""
    return {part[NAME]: part[EAR] for part in _with_inner(scene[0])}


def _with_inner(part):
    """List a part and all parts in it, each ahead of those in it."""
    found = [part]
    for inner in part[PARTS]:
        found.extend(_with_inner(inner))
    return found


def _is_tree(thing):
    """Tell whether a thing is a part, and those in it are, few enough and none too deep."""
    # Counted on the walk: one tuple that stands in many places makes a vast tree of a small thing.
    many = 0
    waiting = [(thing, 1)]
    while waiting:
        part, depth = waiting.pop()
        many += 1
        if many > MOST_PARTS or depth > DEEPEST or not _is_part(part):
            return False
        waiting.extend([(inner, depth + 1) for inner in part[PARTS]])
    return True


def _is_part(thing):
    """Tell whether a thing is a part, whatever the parts in it are."""
    if not is_row(thing, 6):
        return False
    name, box, ear, shelf, wishes, parts = thing
    if not is_word(name) or not _is_box(box) or ear not in EARS or not _is_shelf(shelf):
        return False
    return _are_wishes(wishes) and isinstance(parts, tuple)


def _is_box(thing):
    """Tell whether a thing is a box."""
    if not is_row(thing, 4):
        return False
    left, top, wide, high = thing
    if not is_coordinate(left) or not is_coordinate(top):
        return False
    return is_between(wide, 1, FARTHEST) and is_between(high, 1, FARTHEST)


def _is_shelf(thing):
    """Tell whether a thing is a shelf, or None."""
    if thing is None:
        return True
    if not is_row(thing, 3):
        return False
    way, least, most = thing
    return way in SHELF_WAYS and is_between(least, -FARTHEST, 0) and is_between(most, 0, FARTHEST)


def _are_wishes(thing):
    """Tell whether a thing is a tuple of wishes, not too many for one part."""
    if not isinstance(thing, tuple) or len(thing) > MOST_WISHES:
        return False
    return all([_is_wish(wish) for wish in thing])


def _is_wish(thing):
    """Tell whether a thing is a wish of any kind."""
    if is_row(thing, 2):
        kind, label = thing
        return kind in ("spread", "turn") and is_word(label)
    if not is_row(thing, 3):
        return False
    kind, label, more = thing
    return is_word(label) and _is_more(kind, more)


def _is_more(kind, more):
    """Tell whether a kind of wish has more than a label, and this is such."""
    if kind == "tap":
        return is_between(more, 1, MOST_TAPS)
    if kind == "press":
        return is_between(more, 1, LONGEST_WAIT)
    if kind == "pull":
        return more in PULL_WAYS
    return kind == "made" and is_machine(more)


def _are_pairs(thing, known):
    """Tell whether a thing is a tuple of pairs of two unlike known labels."""
    return isinstance(thing, tuple) and all([_is_pair(pair, known) for pair in thing])


def _is_pair(thing, known):
    """Tell whether a thing is a pair of two unlike known labels."""
    if not is_row(thing, 2):
        return False
    label, other = thing
    if not is_word(label) or not is_word(other):
        return False
    return label in known and other in known and label != other


def _comes_back(heeds):
    """Tell whether a label comes back to itself, going from labels to those that they heed."""
    heeded_by = {}
    left = {}
    for label, other in heeds:
        heeded_by.setdefault(other, []).append(label)
        left[label] = left.get(label, 0) + 1
        left.setdefault(other, 0)
    # Labels that heed none that is left are taken off; only what leads into a ring stays.
    free = [label for label in left if left[label] == 0]
    taken = 0
    while free:
        other = free.pop()
        taken += 1
        for label in heeded_by.get(other, []):
            left[label] -= 1
            if left[label] == 0:
                free.append(label)
    return taken < len(left)
