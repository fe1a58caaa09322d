"""Things of any kind, and ways to spoil a good one, for tests of what is asked of anything."""


def nested(kind, depth):
    """A tuple or list with so many within one another."""
    thing = kind()
    for _ in range(depth - 1):
        thing = kind([thing])
    return thing


def mixed(depth):
    """Tuples and lists by turns, so many within one another."""
    thing = 0
    for level in range(depth):
        thing = (thing, None) if level & 1 else [thing, "a"]
    return thing


SIXTY = int("9" * 60)

JUNK = [
    None, True, False, 0, 1, -1, 3, 8, 10000, SIXTY, -SIXTY,
    "", "a", "tap", "wait", "A", "a1", "a b", "a\n", "\n", " ", "~", "ninelette", "back" * 50,
    (), [], (()), ((),), [[]], ((), (), ()), ([], [], []), (None,), (True,), ("a",), ["a"],
    (0, 0, 1, 1), [0, 0, 1, 1], ("tap", "a", 1), ["tap", "a", 1], ("a", "b"), (("a", "b"),),
    (None, ()), ((None, ()),), [(None, ())], (("up", "claim"),),
    nested(tuple, 100), nested(list, 100), mixed(100), (nested(list, 99), nested(tuple, 99), ()),
]


def spoiled(thing):
    """Each thing that is this one but for one place, where junk stands, or a list for a tuple."""
    for other in JUNK:
        yield other
    if isinstance(thing, tuple):
        yield list(thing)
        yield thing + (None,)
        yield thing + thing
        for at, inner in enumerate(thing):
            yield thing[:at] + thing[at + 1:]
            for other in spoiled(inner):
                yield thing[:at] + (other,) + thing[at + 1:]
