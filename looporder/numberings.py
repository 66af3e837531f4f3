"""Numberings: other numbers for the places of a web, by which one pass is enough whatever the lengths are."""

from itertools import permutations

from looporder.checks import check_web, has_edge
from looporder.errors import TooMany
from looporder.passes import check_loops
from looporder.seen import count_passes
from looporder.walks import each_way

MOST_PLACES_FOR_NUMBERINGS = 6


def falling_numbering(web):
    """Return a numbering by which each edge leads to a place with a lesser number, or None if the web has a ring."""
    check_web(web)
    numbering = [None] * len(web)
    for number in range(len(web)):
        place = _find_place(web, numbering)
        if place is None:
            return None
        numbering[place] = number
    return numbering


def _find_place(web, numbering):
    """Return the first place without a number from which edges lead to places with numbers only, or None."""
    places = range(len(web))
    for x in places:
        if numbering[x] is None and all([numbering[y] is not None for y in places if has_edge(web, x, y)]):
            return x
    return None


def good_numbering(web, loops):
    """Return the least numbering by which one pass is enough whatever the lengths are, or None if there is none."""
    check_web(web)
    check_loops(loops)
    if len(web) > MOST_PLACES_FOR_NUMBERINGS:
        raise TooMany(len(web))
    # All ways of up to three places are seen by one pass. Short ways come first, as they are seen the least often.
    ways = sorted([way for way in each_way(web) if len(way) > 3], key=len)
    known = {}
    for numbering in permutations(range(len(web))):
        if _sees_all(ways, numbering, loops, known):
            return list(numbering)
    return None


def _sees_all(ways, numbering, loops, known):
    """Tell whether one pass sees all these ways with their new numbers, and keep in `known` which of them it sees."""
    for way in ways:
        renewed = tuple([numbering[place] for place in way])
        if renewed not in known:
            known[renewed] = count_passes(renewed, loops) <= 1
        if not known[renewed]:
            return False
    return True
