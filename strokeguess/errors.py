"""The refusals, each made of its field alone."""


class NoTouch(ValueError):
    """What was told is no touch, or no moment."""


class NoText(ValueError):
    """A text is none of those asked for; row is the number of its first wrong row."""

    def __init__(self, row):
        ValueError.__init__(self, row)
        self.row = row


class Late(ValueError):
    """A moment is ahead of the last one told; last is that one."""

    def __init__(self, last):
        ValueError.__init__(self, last)
        self.last = last


class IsDown(KeyError):
    """The finger is down already."""

    def __init__(self, finger):
        KeyError.__init__(self, finger)
        self.finger = finger


class NotDown(KeyError):
    """The finger is not down."""

    def __init__(self, finger):
        KeyError.__init__(self, finger)
        self.finger = finger


class NoHope(KeyError):
    """There is no hope, or no wish, of this label."""

    def __init__(self, label):
        KeyError.__init__(self, label)
        self.label = label


class NoPart(KeyError):
    """There is no part of this name that can be taken out, or put back."""

    def __init__(self, name):
        KeyError.__init__(self, name)
        self.name = name


class NoWatch(KeyError):
    """A watcher's word is there already, or isn't there."""

    def __init__(self, word):
        KeyError.__init__(self, word)
        self.word = word


class NoCount(IndexError):
    """No whole number from 0 to most, which is how many deeds there were."""

    def __init__(self, most):
        IndexError.__init__(self, most)
        self.most = most
