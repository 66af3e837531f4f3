"""Passes of three loops over the table of a web: the table after so many of them, and how many are needed."""

from looporder.checks import check_number
from looporder.errors import UnknownLoops
from looporder.webs import check_sound, distances

# The outermost loop first.
LOOPS = ("kij", "kji", "ikj", "jki", "ijk", "jik")


def table_after(web, loops, passes):
    """Return the table of a sound web after so many passes."""
    check_sound(web)
    check_loops(loops)
    check_number(passes)
    table = [list(row) for row in web]
    steps = steps_of(len(web), loops)
    for _ in range(passes):
        go_pass(table, steps)
    return table


def passes_needed(web, loops):
    """Return the least number of passes by which the table of a sound web gets the distances."""
    check_sound(web)
    check_loops(loops)
    goal = distances(web)
    table = [list(row) for row in web]
    steps = steps_of(len(web), loops)
    many = 0
    # This ends, since three passes are enough for every sound web.
    while table != goal:
        go_pass(table, steps)
        many += 1
    return many


def check_loops(thing):
    """Raise UnknownLoops if a thing is not a name of an order of the loops."""
    if not isinstance(thing, str) or thing not in LOOPS:
        raise UnknownLoops(thing)


def steps_of(size, loops):
    """Return the list of all (i, j, k) in the order in which a pass goes through them."""
    places = range(size)
    steps = []
    for first in places:
        for second in places:
            for third in places:
                step = {loops[0]: first, loops[1]: second, loops[2]: third}
                steps.append((step["i"], step["j"], step["k"]))
    return steps


def go_pass(table, steps):
    """Go through one pass and lower the table, in place; tell whether it changes."""
    changed = False
    for i, j, k in steps:
        if table[i][k] is not None and table[k][j] is not None:
            total = table[i][k] + table[k][j]
            if table[i][j] is None or table[i][j] > total:
                table[i][j] = total
                changed = True
    return changed
