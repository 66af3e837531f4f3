"""Webs: building and changing them, their soundness, and their distances."""

from looporder.checks import check_order, check_web, has_edge, is_place, is_whole
from looporder.errors import InvalidEdges, InvalidSize, LowRing, NotSingle

MOST_PLACES = 8


def web_of_edges(size, edges):
    """Return the web of so many places with edges from tuples (x, y, length)."""
    if not is_whole(size) or not 0 <= size <= MOST_PLACES:
        raise InvalidSize(size)
    if not isinstance(edges, list):
        raise InvalidEdges(None)
    web = _bare_web(size)
    for index, thing in enumerate(edges):
        if not _is_measured_edge(thing, size):
            raise InvalidEdges(index)
        x, y, length = thing
        if has_edge(web, x, y):
            raise InvalidEdges(index)
        web[x][y] = length
    return web


def _bare_web(size):
    """Return the web of so many places that has no edges."""
    return [[0 if x == y else None for y in range(size)] for x in range(size)]


def _is_measured_edge(thing, size):
    """Tell whether a thing is a tuple of two different places and a whole number."""
    if not isinstance(thing, tuple) or len(thing) != 3:
        return False
    x, y, length = thing
    return is_place(x, size) and is_place(y, size) and x != y and is_whole(length)


def edges_of(web):
    """Return the ascending list of all edges, as tuples of two places."""
    check_web(web)
    return _list_edges(web)


def _list_edges(web):
    places = range(len(web))
    return [(x, y) for x in places for y in places if has_edge(web, x, y)]


def turned_web(web):
    """Return the web with all edges the other way round."""
    check_web(web)
    places = range(len(web))
    return [[web[y][x] for y in places] for x in places]


def renumbered(web, numbering):
    """Return the web in which each place x has the number numbering[x]."""
    check_web(web)
    check_order(web, numbering)
    places = range(len(web))
    renewed = _bare_web(len(web))
    for x in places:
        for y in places:
            renewed[numbering[x]][numbering[y]] = web[x][y]
    return renewed


def low_ring(web):
    """Return a ring with a length below 0, or None if the web is sound."""
    check_web(web)
    return _find_low_ring(web)


def check_sound(web):
    """Raise InvalidWeb if this is not a web, or LowRing if it is one that is not sound."""
    check_web(web)
    ring = _find_low_ring(web)
    if ring is not None:
        raise LowRing(ring)


def _find_low_ring(web):
    # With all values at 0 each place is a source, so that every ring is within reach.
    before, last = settle(web, [0] * len(web))
    if last is None:
        return None
    # A place lowered in round r was lowered from one that was lowered in round r - 1 or later.
    # So the way back from the last round has as many steps as there are places, and is on a ring then.
    for _ in web:
        last = before[last]
    ring = [last]
    while before[ring[-1]] != last:
        ring.append(before[ring[-1]])
    return ring[::-1]


def settle(web, values):
    """Lower the values, in place, by rounds over all edges until nothing changes.

    Give up after as many rounds as there are places: in a sound web the last one changes nothing.
    Return a list with, for each place, the place from which it was lowered last, or None; and a
    place that was lowered in the last round, or None.
    """
    edges = _list_edges(web)
    before = [None] * len(web)
    last = None
    for _ in web:
        last = None
        for x, y in edges:
            if lower_along(web, values, x, y):
                before[y] = x
                last = y
        if last is None:
            break
    return before, last


def lower_along(web, values, x, y):
    """Lower the value of y, in place, if the edge from x to y makes it less, and tell whether it does."""
    if values[x] is None:
        return False
    total = values[x] + web[x][y]
    if values[y] is not None and values[y] <= total:
        return False
    values[y] = total
    return True


def values_from(web, source):
    """Return the values at first: 0 for the source, None for the other places."""
    return [0 if place == source else None for place in range(len(web))]


def distances(web):
    """Return the list of lists of the distances, with None where no walk leads."""
    check_sound(web)
    return _list_distances(web)


def _list_distances(web):
    table = []
    for source in range(len(web)):
        values = values_from(web, source)
        settle(web, values)
        table.append(values)
    return table


def is_single(web):
    """Tell whether a sound web is single."""
    check_sound(web)
    return _has_single_ways(web)


def check_single(web):
    """Raise InvalidWeb if this is not a web, LowRing if it is not sound, or NotSingle if it is not single."""
    check_sound(web)
    if not _has_single_ways(web):
        raise NotSingle("the web has two shortest ways or a ring of length 0")


def _has_single_ways(web):
    table = _list_distances(web)
    return not _has_zero_ring(web, table) and not _has_two_shortest_ways(web, table)


def _has_zero_ring(web, table):
    for x, y in _list_edges(web):
        if table[y][x] is not None and web[x][y] + table[y][x] == 0:
            return True
    return False


def _has_two_shortest_ways(web, table):
    """Tell whether two shortest ways lead from one place to another; no ring may have the length 0."""
    for row in table:
        # Of two shortest ways, read backwards, the first edges that differ lead to the same place.
        entered = [False] * len(web)
        for x, y in _list_edges(web):
            if row[x] is not None and row[x] + web[x][y] == row[y]:
                if entered[y]:
                    return True
                entered[y] = True
    return False
