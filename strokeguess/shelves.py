"""Shelves: where they are, and what each of them takes of a step."""

from strokeguess.scenes import NAME, PARTS, SHELF


class Shelves:
    """The shelves of a scene's parts, with their places."""

    def __init__(self, scene):
        self._scene = scene
        self._shelves = {}
        self._places = {}
        # Of each part the parts with shelves that a step of it comes to: its own, its parent's, and so on outward.
        self._outward = {}
        self._put_in(scene[0], [])

    def step(self, name, dx, dy):
        """Take a step of a part: tell what each shelf took, with its place behind it, and what was left over."""
        taken = []
        over_dx = self._take(taken, name, "across", dx)
        over_dy = self._take(taken, name, "along", dy)
        return (taken, (over_dx, over_dy))

    def places(self):
        """Tell the places of all shelves, by their parts."""
        return dict(self._places)

    def copy(self):
        """Make others that stand as these do."""
        other = Shelves(self._scene)
        other._places = dict(self._places)
        return other

    def put_back(self, names):
        """Put the shelves of these parts, where they have any, back to where they were at first."""
        for name in names:
            if name in self._places:
                self._places[name] = 0

    def _put_in(self, part, outer):
        """Put in the shelves of a part and of all in it; outer are the parts around it that have shelves."""
        name = part[NAME]
        outward = list(outer)
        if part[SHELF] is not None:
            self._shelves[name] = part[SHELF]
            self._places[name] = 0
            outward.insert(0, name)
        self._outward[name] = outward
        for inner in part[PARTS]:
            self._put_in(inner, outward)

    def _take(self, taken, name, way, left):
        """Let the shelves of a way take what is left of a step, and tell what is left behind them."""
        for part in self._outward[name]:
            shelf_way, least, most = self._shelves[part]
            place = self._places[part]
            goal = min(max(place + left, least), most)
            if shelf_way == way and goal != place:
                self._places[part] = goal
                taken.append((part, goal - place, goal))
                left -= goal - place
        return left
