"""Seen ways: which ways passes of three loops take into account, whatever the lengths are, and how many of them."""

from itertools import combinations, permutations

from looporder.checks import check_number, check_web, has_edge, is_whole
from looporder.errors import InvalidSize, InvalidWay, TooMany
from looporder.passes import check_loops

MOST_ON_WAY = 8
MOST_PLACES_FOR_UNSEEN = 7
MOST_NUMBERS_FOR_COUNT = 7


def is_seen(way, loops, passes):
    """Tell whether a way is seen by so many passes."""
    _check_way(way)
    check_loops(loops)
    check_number(passes)
    return count_passes(way, loops) <= passes


def passes_for(way, loops):
    """Return the least number of passes by which a way is seen."""
    _check_way(way)
    check_loops(loops)
    return count_passes(way, loops)


def _check_way(way):
    """Raise InvalidWay if this is not a list of 1 to 8 different whole numbers from 0 on."""
    if not isinstance(way, list) or not 1 <= len(way) <= MOST_ON_WAY:
        raise InvalidWay(None)
    for index, number in enumerate(way):
        if not is_whole(number) or number < 0 or number in way[:index]:
            raise InvalidWay(index)


def count_passes(way, loops):
    """Return the least number of passes by which a way is seen; the way is a list or a tuple and is not checked."""
    indexes = range(len(way))
    steps = _steps_along(way, loops)
    # Places stand here for where they are on the way: the table has numbers for these pairs of them.
    joined = {(start, end) for start in indexes for end in indexes if end - start in (0, 1)}
    many = 0
    # This ends, since three passes see every way.
    while (0, len(way) - 1) not in joined:
        for start, middle, end in steps:
            if (start, middle) in joined and (middle, end) in joined:
                joined.add((start, end))
        many += 1
    return many


def _steps_along(way, loops):
    """Return where i, k and j stand on the way, in the order of the steps of a pass, if they stand there in this order.

    No other steps change a table, since the edges of the way lead forward only.
    """
    steps = []
    for start, middle, end in combinations(range(len(way)), 3):
        step = {"i": way[start], "k": way[middle], "j": way[end]}
        steps.append((step[loops[0]], step[loops[1]], step[loops[2]], start, middle, end))
    return [step[3:] for step in sorted(steps)]


def unseen_way(web, loops, passes):
    """Return the way with the fewest places, and of those the least, that so many passes do not see, or None."""
    check_web(web)
    check_loops(loops)
    check_number(passes)
    if len(web) > MOST_PLACES_FOR_UNSEEN:
        raise TooMany(len(web))
    ways = [[place] for place in range(len(web))]
    while ways:
        for way in ways:
            if count_passes(way, loops) > passes:
                return way
        ways = _longer_ways(web, ways)
    return None


def _longer_ways(web, ways):
    """Return the ways with one place more than these ways, which all have as many, in the same order."""
    places = range(len(web))
    return [way + [place] for way in ways for place in places if place not in way and has_edge(web, way[-1], place)]


def count_seen(size, loops, passes):
    """Return the number of the orders of the numbers from 0 to size - 1 that are seen as ways by so many passes."""
    if not is_whole(size) or not 1 <= size <= MOST_NUMBERS_FOR_COUNT:
        raise InvalidSize(size)
    check_loops(loops)
    check_number(passes)
    many = 0
    for way in permutations(range(size)):
        if count_passes(way, loops) <= passes:
            many += 1
    return many
