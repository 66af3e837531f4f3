"""Moves: how few edges of a plain list have to be moved so that one round is enough, and why no fewer."""

from looporder.checks import check_edges, check_place, is_edge
from looporder.errors import InvalidEdges
from looporder.walks import ways_from
from looporder.webs import check_single, edges_of


def fewest_moved(web, edges, source):
    """Return the least number of edges to be moved so that one round is enough, and a list reached by so many moves."""
    _check_arguments(web, edges, source)
    leading = _leading_edges(web, source)
    turned = _turned_edges(leading, edges)
    kept = _most_kept(turned)
    moved = [edge for edge in leading if edge not in kept]
    result = [edge for edge in edges if edge not in moved]
    # A moved edge is put right behind the edge before it on its ways, or in front if there is none. So it stands before
    # the kept edges after it on its ways, as these stand behind the kept ones before it: no two of them are turned.
    for edge in moved:
        before = leading[edge]
        result.insert(result.index(before[-1]) + 1 if before else 0, edge)
    return len(moved), result


def turned_rows(web, edges, source):
    """Return a list of turned rows, as few as possible, that divides the edges on shortest ways from the source."""
    _check_arguments(web, edges, source)
    turned = _turned_edges(_leading_edges(web, source), edges)
    above = _match(turned)
    below = {above[edge]: edge for edge in above}
    rows = []
    for edge in turned:
        if edge not in above:
            row = [edge]
            while row[-1] in below:
                row.append(below[row[-1]])
            rows.append(row)
    return rows


def are_turned_rows(web, edges, source, thing):
    """Tell whether a thing of any kind is a valid result of turned_rows, the rows in any order."""
    _check_arguments(web, edges, source)
    turned = _turned_edges(_leading_edges(web, source), edges)
    if not isinstance(thing, list) or len(thing) != len(turned) - len(_match(turned)):
        return False
    left = list(turned)
    for row in thing:
        if not _is_turned_row(web, turned, row):
            return False
        for edge in row:
            if edge not in left:
                return False
            left.remove(edge)
    return not left


def _is_turned_row(web, turned, thing):
    """Tell whether a thing of any kind is a turned row."""
    if not isinstance(thing, list) or not thing:
        return False
    for edge in thing:
        if not is_edge(web, edge) or edge not in turned:
            return False
    # If each two neighbours are turned, so are each two: both orders carry over from one to the next.
    return all([edge in turned[before] for before, edge in zip(thing, thing[1:])])


def _check_arguments(web, edges, source):
    check_single(web)
    check_edges(web, edges)
    _check_plain(web, edges)
    check_place(web, source)


def _check_plain(web, edges):
    """Raise InvalidEdges if an edge stands twice in a list of edges, or if one of the web is missing."""
    stood = set()
    for index, edge in enumerate(edges):
        if edge in stood:
            raise InvalidEdges(index)
        stood.add(edge)
    if len(edges) < len(edges_of(web)):
        raise InvalidEdges(len(edges))


def _leading_edges(web, source):
    """Return a dict with, for each edge on shortest ways from the source, the list of those before it on its ways.

    The edges stand in the dict behind those that come before them.
    """
    leading = {}
    found = [way for way in ways_from(web, source) if way is not None]
    for way in sorted(found, key=len):
        edges = list(zip(way, way[1:]))
        if edges:
            leading[edges[-1]] = edges[:-1]
    return leading


def _turned_edges(leading, edges):
    """Return a dict with, for each edge on shortest ways, the list of those that are turned with it and come later."""
    places = {edge: index for index, edge in enumerate(edges)}
    return {
        first: [edge for edge in leading if first in leading[edge] and places[edge] < places[first]]
        for first in leading
    }


def _match(turned):
    """Return a dict with, for as many edges as possible, an edge with which each is turned, no edge for two of them."""
    above = {}
    for edge in turned:
        _match_edge(edge, turned, above, {})
    return above


def _match_edge(edge, turned, above, tried):
    """Give the edge to one that is turned with it, perhaps taken from another edge that gets one anew."""
    for other in turned[edge]:
        if other not in tried:
            tried[other] = True
            if other not in above or _match_edge(above[other], turned, above, tried):
                above[other] = edge
                return True
    return False


def _most_kept(turned):
    """Return a list with as many edges as possible of which no two are turned."""
    above = _match(turned)
    matched = list(above.values())
    waiting = [edge for edge in turned if edge not in matched]
    reached = []
    passed = {}
    # What is turned with a reached edge is passed, so that no two edges that are reached and not passed are turned.
    # Each turned row has such an edge, so that they are as many as possible: the last edge of a row is reached, an
    # earlier one if the next one is passed, and the first one is not passed, since then more edges could be matched.
    while waiting:
        edge = waiting.pop()
        reached.append(edge)
        for other in turned[edge]:
            if other not in passed:
                passed[other] = True
                waiting.append(above[other])
    return [edge for edge in reached if edge not in passed]
