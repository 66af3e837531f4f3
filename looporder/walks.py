"""Walks and ways: their lengths, the shortest ones, and all ways of a web."""

from looporder.checks import check_place, check_walk, check_web, has_edge
from looporder.errors import TooMany
from looporder.webs import check_sound, settle, values_from

MOST_PLACES_FOR_WAYS = 6


def length_of(web, walk):
    """Return the length of a walk; the web need not be sound."""
    check_web(web)
    check_walk(web, walk)
    return sum([web[x][y] for x, y in zip(walk, walk[1:])])


def shortest_way(web, x, y):
    """Return a shortest way from x to y, or None if no walk leads there."""
    check_sound(web)
    check_place(web, x)
    check_place(web, y)
    return ways_from(web, x)[y]


def ways_from(web, source):
    """Return a list with a shortest way from the source to each place, or None where no walk leads.

    A way to a place begins with the listed ways to all places on it, so that the ways form a tree.
    """
    values = values_from(web, source)
    before, _ = settle(web, values)
    return [None if value is None else _way_back(before, place) for place, value in enumerate(values)]


def _way_back(before, place):
    # No place stands twice here, even with rings of length 0: values are lowered to lesser ones only.
    way = [place]
    while before[way[-1]] is not None:
        way.append(before[way[-1]])
    return way[::-1]


def each_way(web):
    """Yield all ways in ascending order, also those of one place; the web need not be sound."""
    check_web(web)
    if len(web) > MOST_PLACES_FOR_WAYS:
        raise TooMany(len(web))
    places = range(len(web))
    # The least of the ways that wait stands last, so that it is taken next.
    waiting = [[place] for place in reversed(places)]
    while waiting:
        way = waiting.pop()
        for place in reversed(places):
            if place not in way and has_edge(web, way[-1], place):
                waiting.append(way + [place])
        yield way
