"""The errors of the package.

The messages do not show what was passed, since it may be of any kind.
"""


class InvalidWeb(ValueError):
    """Something is not a web; `place` is the first place with a wrong list."""

    def __init__(self, place):
        ValueError.__init__(self, "not a web")
        self.place = place


class UnknownPlace(LookupError):
    """Something is not a place of the web; `place` is what was passed."""

    def __init__(self, place):
        LookupError.__init__(self, "not a place of the web")
        self.place = place


class LowRing(ValueError):
    """The web is not sound; `ring` is a ring with a length below 0."""

    def __init__(self, ring):
        ValueError.__init__(self, "the web has a ring with a length below 0")
        self.ring = ring


class NotSingle(ValueError):
    """The web is not single."""


class InvalidEdges(ValueError):
    """Something is not a list of edges; `index` is the number of the first wrong thing."""

    def __init__(self, index):
        ValueError.__init__(self, "not a list of edges as described")
        self.index = index


class InvalidWalk(ValueError):
    """Something is not a walk; `index` is the number of the first wrong thing."""

    def __init__(self, index):
        ValueError.__init__(self, "not a walk of the web")
        self.index = index


class InvalidOrder(ValueError):
    """Something is not a list of all places; `index` is the number of the first wrong thing."""

    def __init__(self, index):
        ValueError.__init__(self, "not a list of all places, each once")
        self.index = index


class InvalidWay(ValueError):
    """Something is not a way; `index` is the number of the first wrong thing."""

    def __init__(self, index):
        ValueError.__init__(self, "not a list of 1 to 8 different whole numbers from 0 on")
        self.index = index


class InvalidNumber(ValueError):
    """Something is not a number as described; `number` is what was passed."""

    def __init__(self, number):
        ValueError.__init__(self, "not a whole number within the bounds")
        self.number = number


class InvalidSize(ValueError):
    """Something is not a size as described; `size` is what was passed."""

    def __init__(self, size):
        ValueError.__init__(self, "not a size within the bounds")
        self.size = size


class UnknownLoops(LookupError):
    """Something is not a name of an order of the loops; `name` is what was passed."""

    def __init__(self, name):
        LookupError.__init__(self, "not one of the six names of the loops")
        self.name = name


class InvalidText(ValueError):
    """Something is not a text as described; `line` is the number of the first wrong line."""

    def __init__(self, line):
        ValueError.__init__(self, "not a text as described")
        self.line = line


class TooMany(ValueError):
    """There are more things than a function takes; `count` is their number."""

    def __init__(self, count):
        ValueError.__init__(self, "more than this function takes")
        self.count = count
