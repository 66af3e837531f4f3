"""What several modules ask about arguments: kinds of values, places, edges and lists of them."""

from looporder.errors import InvalidEdges, InvalidNumber, InvalidOrder, InvalidWalk, InvalidWeb, UnknownPlace

MOST_ROUNDS = 60


def is_whole(thing):
    """Tell whether a thing is a whole number; True and False are none."""
    return isinstance(thing, int) and not isinstance(thing, bool)


def is_place(thing, size):
    """Tell whether a thing is a place of a web of this size."""
    return is_whole(thing) and 0 <= thing < size


def has_edge(web, x, y):
    """Tell whether an edge of the web leads from the place x to the place y."""
    return x != y and web[x][y] is not None


def is_edge(web, thing):
    """Tell whether a thing is a tuple of two places that are joined by an edge of the web."""
    if not isinstance(thing, tuple) or len(thing) != 2:
        return False
    x, y = thing
    return is_place(x, len(web)) and is_place(y, len(web)) and has_edge(web, x, y)


def check_web(web):
    """Raise InvalidWeb if this is not a web; it need not be sound."""
    if not isinstance(web, list):
        raise InvalidWeb(None)
    for row in web:
        if not isinstance(row, list):
            raise InvalidWeb(None)
    for place, row in enumerate(web):
        if not _is_row(row, place, len(web)):
            raise InvalidWeb(place)


def _is_row(row, place, size):
    """Tell whether a list may stand for this place in a web of this size."""
    if len(row) != size:
        return False
    for thing in row:
        if thing is not None and not is_whole(thing):
            return False
    return row[place] == 0


def check_place(web, thing):
    """Raise UnknownPlace if a thing is not a place of the web."""
    if not is_place(thing, len(web)):
        raise UnknownPlace(thing)


def check_edges(web, edges):
    """Raise InvalidEdges if this is not a list of edges of the web; an edge may stand in it again."""
    if not isinstance(edges, list):
        raise InvalidEdges(None)
    for index, thing in enumerate(edges):
        if not is_edge(web, thing):
            raise InvalidEdges(index)


def check_walk(web, walk):
    """Raise InvalidWalk if this is not a walk of the web."""
    if not isinstance(walk, list) or not walk:
        raise InvalidWalk(None)
    for index, place in enumerate(walk):
        if not is_place(place, len(web)):
            raise InvalidWalk(index)
        if index > 0 and not has_edge(web, walk[index - 1], place):
            raise InvalidWalk(index)


def check_order(web, order):
    """Raise InvalidOrder if this is not a list of all places of the web, each once."""
    if not isinstance(order, list) or len(order) != len(web):
        raise InvalidOrder(None)
    for index, place in enumerate(order):
        if not is_place(place, len(web)) or place in order[:index]:
            raise InvalidOrder(index)


def check_number(thing):
    """Raise InvalidNumber if a thing is not a whole number from 0 to the most rounds and passes."""
    if not is_whole(thing) or not 0 <= thing <= MOST_ROUNDS:
        raise InvalidNumber(thing)
