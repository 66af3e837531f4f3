"""Orders of the edges: by which lists of edges one round, or half as many as usual, are enough."""

from looporder.checks import check_number, check_order, check_place, check_web, has_edge
from looporder.walks import ways_from
from looporder.webs import check_single, check_sound, distances, edges_of


def count_lists(many, number):
    """Return in how many of the lists of the edges of a way, which are so many, it has this number of runs."""
    check_number(many)
    check_number(number)
    # The row for ways with so many edges, by the number of runs; the way without edges has none.
    row = [1] + [0] * many
    for length in range(1, many + 1):
        row = [0] + [runs * row[runs] + (length - runs + 1) * row[runs - 1] for runs in range(1, many + 1)]
    return row[number] if number <= many else 0


def halved_list(web, order):
    """Return the halved list of an order of the places; the web need not be sound."""
    check_web(web)
    check_order(web, order)
    later = []
    earlier = []
    for index, x in enumerate(order):
        later = later + [(x, y) for y in order[index + 1:] if has_edge(web, x, y)]
        earlier = [(x, y) for y in order[:index] if has_edge(web, x, y)] + earlier
    return later + earlier


def list_for(web, source):
    """Return a plain list by which one round is enough from the source."""
    check_sound(web)
    check_place(web, source)
    # All listed ways through an edge have the same edges before it, so that these stand before it here.
    first = []
    for edges in _edges_of_ways(web, source):
        for edge in edges:
            if edge not in first:
                first.append(edge)
    return first + [edge for edge in edges_of(web) if edge not in first]


def count_lists_for(web, source):
    """Return the number of the plain lists of a single web by which one round is enough from the source."""
    check_single(web)
    check_place(web, source)
    # In a single web an edge has as many edges from it on as there are shortest ways through it from the source.
    through = {}
    for edges in _edges_of_ways(web, source):
        for edge in edges:
            through[edge] = through.get(edge, 0) + 1
    every = _product(list(range(1, len(edges_of(web)) + 1)))
    return every // _product(list(through.values()))


def _product(numbers):
    total = 1
    for number in numbers:
        total *= number
    return total


def _edges_of_ways(web, source):
    """Return for each place to which walks lead the list of the edges of a shortest way from the source."""
    return [list(zip(way, way[1:])) for way in ways_from(web, source) if way is not None]


def list_for_all(web):
    """Return a plain list of a single web by which one round is enough from every source, or None."""
    check_single(web)
    return _list_in_order(_followers(web))


def ring_of_edges(web):
    """Return None if there is a list for all sources of a single web, otherwise a ring of edges."""
    check_single(web)
    return _find_ring(_followers(web))


def list_whatever(web):
    """Return a plain list by which one round is enough from every source whatever the lengths are, or None."""
    check_web(web)
    return _list_in_order(_neighbours(web))


def _followers(web):
    """Return a dict with, for each edge of a single web, the list of the edges by which it is followed."""
    table = distances(web)
    neighbours = _neighbours(web)
    followers = {}
    for x, y in edges_of(web):
        ends = [other[1] for other in neighbours[(x, y)]]
        followers[(x, y)] = [(y, z) for z in ends if web[x][y] + web[y][z] == table[x][z]]
    return followers


def _neighbours(web):
    """Return a dict with, for each edge, the list of the edges that come next on ways through it."""
    edges = edges_of(web)
    return {edge: [other for other in edges if edge[1] == other[0] and edge[0] != other[1]] for edge in edges}


def _list_in_order(behind):
    """Return a list of the edges, each before those that the dict has for it, or None if there is none."""
    arranged = _arrange(behind)
    return arranged if len(arranged) == len(behind) else None


def _arrange(behind):
    """Return a list of edges, each before those that the dict has for it, without those on or behind rings."""
    before = {edge: 0 for edge in behind}
    for edge in behind:
        for other in behind[edge]:
            before[other] += 1
    ready = [edge for edge in behind if before[edge] == 0]
    arranged = []
    while ready:
        edge = ready.pop()
        arranged.append(edge)
        for other in behind[edge]:
            before[other] -= 1
            if before[other] == 0:
                ready.append(other)
    return arranged


def _find_ring(behind):
    """Return a list of edges, each of which has the next one behind it, and the last one the first one, or None."""
    arranged = _arrange(behind)
    left = [edge for edge in behind if edge not in arranged]
    if not left:
        return None
    # Each edge that is left has one that is left before it, so that steps back end on a ring.
    steps = []
    edge = left[0]
    while edge not in steps:
        steps.append(edge)
        edge = [other for other in left if edge in behind[other]][0]
    return steps[steps.index(edge):][::-1]
