"""Rounds over a list of edges: the values after so many of them, what they see, and how many are needed."""

from looporder.checks import check_edges, check_number, check_place, check_walk, check_web
from looporder.webs import check_sound, distances, lower_along, values_from


def values_after(web, edges, source, rounds):
    """Return the list of the values for a source after so many rounds; the web need not be sound."""
    check_web(web)
    check_edges(web, edges)
    check_place(web, source)
    check_number(rounds)
    values = values_from(web, source)
    for _ in range(rounds):
        go_round(web, edges, values)
    return values


def go_round(web, edges, values):
    """Go through one round over a list of edges and lower the values, in place; tell whether one changes."""
    changed = False
    for x, y in edges:
        if lower_along(web, values, x, y):
            changed = True
    return changed


def runs(web, edges, walk):
    """Return the runs of a walk in a list of edges, or None if one of its edges does not occur there."""
    found = pieces(web, edges, walk)
    return None if found is None else len(found)


def pieces(web, edges, walk):
    """Return as many rising walks as the walk has runs, or None if one of its edges does not occur in the list.

    They are the parts of the walk, one behind the other, and each is as long as possible, the first one first.
    """
    check_web(web)
    check_edges(web, edges)
    check_walk(web, walk)
    parts = []
    start = len(edges)
    for edge in zip(walk, walk[1:]):
        index = _find_edge(edges, edge, start)
        if index is None:
            parts.append([edge[0]])
            index = _find_edge(edges, edge, 0)
        if index is None:
            return None
        parts[-1].append(edge[1])
        start = index + 1
    return parts


def _find_edge(edges, edge, start):
    """Return the first number from `start` on under which an edge stands in a list, or None."""
    for index in range(start, len(edges)):
        if edges[index] == edge:
            return index
    return None


def walk_within(web, edges, source, place, rounds):
    """Return a walk with the value of the place after so many rounds as its length, or None if there is no value.

    It leads from the source to the place and has at most so many runs.
    """
    check_web(web)
    check_edges(web, edges)
    check_place(web, source)
    check_place(web, place)
    check_number(rounds)
    values = values_from(web, source)
    # A value may be lowered again after others were lowered from it, and on a ring below 0 from itself.
    # So each lowering is a step of its own that keeps the step from which it came: (place, number of that step).
    steps = [(source, None)]
    latest = [0 if x == source else None for x in range(len(web))]
    for _ in range(rounds):
        for x, y in edges:
            if lower_along(web, values, x, y):
                steps.append((y, latest[x]))
                latest[y] = len(steps) - 1
    return None if latest[place] is None else _walk_of_steps(steps, latest[place])


def _walk_of_steps(steps, number):
    """Return the walk that ends with the step of this number."""
    walk = []
    while number is not None:
        place, number = steps[number]
        walk.append(place)
    return walk[::-1]


def fewest_runs(web, edges, source):
    """Return a list with, for each place, the fewest runs of a shortest walk from the source to it, or None.

    It is None if no walk leads there, or if no shortest walk has runs in the list.
    """
    check_sound(web)
    check_edges(web, edges)
    check_place(web, source)
    goals = distances(web)[source]
    values = values_from(web, source)
    fewest = [None] * len(web)
    # A walk has its length as a value after as many rounds as it has runs, and a way has fewer than there are places.
    for rounds in range(len(web)):
        for place, value in enumerate(values):
            if fewest[place] is None and value is not None and value == goals[place]:
                fewest[place] = rounds
        go_round(web, edges, values)
    return fewest


def rounds_needed(web, edges, source):
    """Return the least number of rounds that are enough for a source, or None if no number is."""
    check_sound(web)
    check_edges(web, edges)
    check_place(web, source)
    return _count_rounds(web, edges, source, distances(web)[source])


def rounds_for_all(web, edges):
    """Return the least number of rounds that are enough for each source, or None if no number is."""
    check_sound(web)
    check_edges(web, edges)
    numbers = [_count_rounds(web, edges, source, goals) for source, goals in enumerate(distances(web))]
    return None if None in numbers else max(numbers, default=0)


def _count_rounds(web, edges, source, goals):
    values = values_from(web, source)
    # After one round fewer than there are places no value changes any more, since a way has no more runs.
    for rounds in range(len(web)):
        if values == goals:
            return rounds
        go_round(web, edges, values)
    return None
