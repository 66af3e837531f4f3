"""Walks and ways: their lengths, the shortest ones, and all ways of a web."""

from looporder.checks import check_place, check_walk, check_web, has_edge
from looporder.errors import TooMany
from looporder.webs import check_sound, settle, values_from

MOST_PLACES_FOR_WAYS = 6


def length_of(web, walk):
    """Return the length of a walk; the web need not be sound."""
    check_web(web)
    check_walk(web, walk)
    return sum([web[x][y] for x, y in zip(walk, walk[1:])])


def shortest_way(web, x, y):
    """Return a shortest way from x to y, or None if no walk leads there."""
    check_sound(web)
    check_place(web, x)
    check_place(web, y)
    values = values_from(web, x)
    before, _ = settle(web, values)
    if values[y] is None:
        return None
    # No place stands twice here, even with rings of length 0: values are lowered to lesser ones only.
    way = [y]
    while way[-1] != x:
        way.append(before[way[-1]])
    return way[::-1]


def each_way(web):
    """Yield all ways in ascending order, also those of one place; the web need not be sound."""
    check_web(web)
    if len(web) > MOST_PLACES_FOR_WAYS:
        raise TooMany(len(web))
    places = range(len(web))
    # The least of the ways that wait stands last, so that it is taken next.
    waiting = [[place] for place in reversed(places)]
    while waiting:
        way = waiting.pop()
        for place in reversed(places):
            if place not in way and has_edge(web, way[-1], place):
                waiting.append(way + [place])
        yield way
