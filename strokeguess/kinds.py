"""The plain kinds of which scenes, machines and touches are made, told of anything."""

LETTERS = "abcdefghijklmnopqrstuvwxyz"
LONGEST_WORD = 8
FARTHEST = 10000


def is_between(thing, least, most):
    """Tell whether a thing is a whole number from least to most."""
    # A truth is an int to Python, but no whole number here.
    return isinstance(thing, int) and not isinstance(thing, bool) and least <= thing <= most


def is_word(thing):
    """Tell whether a thing is a word: one to eight small letters."""
    if not isinstance(thing, str) or not 1 <= len(thing) <= LONGEST_WORD:
        return False
    return all([sign in LETTERS for sign in thing])


def is_coordinate(thing):
    """Tell whether a thing is a whole number by which a place can be told, across or along."""
    return is_between(thing, -FARTHEST, FARTHEST)


def is_row(thing, many):
    """Tell whether a thing is a tuple of so many things."""
    return isinstance(thing, tuple) and len(thing) == many


def are_unlike(keys):
    """Tell whether no two of these words, or tuples of words, are alike."""
    return len(set(keys)) == len(keys)


def is_same(thing, known):
    """Tell whether a thing is the same, kinds too, as a known one of tuples, texts and whole numbers."""
    if isinstance(known, tuple):
        return is_row(thing, len(known)) and all([is_same(one, other) for one, other in zip(thing, known)])
    if isinstance(known, str):
        return isinstance(thing, str) and thing == known
    return is_between(thing, known, known)
