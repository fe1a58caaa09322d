"""Ways: which parts are at a place of the scene, and where the parts' corners are in it."""

from strokeguess.scenes import NAME, PARTS


def way_at(scene, x, y, *, places=None):
    """List the names of the parts at a place, the innermost one first."""
    return way_around(scene, x, y, places, {})


def way_around(scene, x, y, places, missing):
    """List the names of the parts at a place as if those in a dict of names that are missing weren't there."""
    way = []
    part = _last_at((scene[0],), x, y, missing)
    while part is not None:
        way.append(part[NAME])
        left, top = _start_of_inner(part, places)
        x, y = x - left, y - top
        part = _last_at(part[PARTS], x, y, missing)
    way.reverse()
    return way


def corners(scene, *, places=None):
    """Tell of each part where its corner is in the scene's places."""
    found = {}
    _put_corners(found, scene[0], (0, 0), places)
    return found


def _last_at(parts, x, y, missing):
    """Tell the last of these parts that is at a place, told in their parent's places, or None."""
    for part in reversed(parts):
        name, (left, top, wide, high), _, _, _, _ = part
        if name not in missing and left <= x < left + wide and top <= y < top + high:
            return part
    return None


def _start_of_inner(part, places):
    """Tell, in the places in which a part's box stands, the place from which its own parts' boxes stand."""
    name, (left, top, _, _), _, shelf, _, _ = part
    if shelf is None or places is None:
        return (left, top)
    place = places.get(name, 0)
    return (left + place, top) if shelf[0] == "across" else (left, top + place)


def _put_corners(found, part, start, places):
    """Put the corners of a part and of all in it, where the part's box stands from this start."""
    name, (left, top, _, _), _, _, _, parts = part
    x, y = start
    found[name] = (x + left, y + top)
    across, along = _start_of_inner(part, places)
    for inner in parts:
        _put_corners(found, inner, (x + across, y + along), places)
