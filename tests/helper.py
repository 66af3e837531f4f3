"""What the tests share: slow searches, webs to search, and calls that are watched."""

import copy
import functools
import itertools
import unittest

from looporder.errors import InvalidWeb, LowRing, NotSingle

FAR = 999_999_999_999
NAMES = ["kij", "kji", "ikj", "jki", "ijk", "jik"]


class NoPlace:
    """A thing of a kind that fits nowhere; comparing or showing it fails."""

    def __eq__(self, other):
        raise AssertionError("a wrong thing was compared")

    def __repr__(self):
        raise AssertionError("a wrong thing was shown")


# No lists, no whole numbers, and no tuples of three things: wrong for each argument and each thing in one.
ODD_THINGS = [None, True, False, 0.0, 1.5, "", "kij", b"", (), {}, set(), object, NoPlace()]

# No whole numbers, whatever they are needed for.
NO_WHOLE_NUMBERS = [*ODD_THINGS, [], [0], "0", 1.0]

# Each pair: something that is no web, and the field of InvalidWeb.
WRONG_WEBS = [(thing, None) for thing in [*ODD_THINGS, 0, 3, -1]] + [
    (((0,),), None),
    ([0], None),
    ([None], None),
    ([(0,)], None),
    (["0"], None),
    ([[0, 1], (1, 0)], None),
    ([[9, 9, 9], None], None),
    ([[]], 0),
    ([[0, 1]], 0),
    ([[1]], 0),
    ([[-1]], 0),
    ([[None]], 0),
    ([[False]], 0),
    ([[0.0]], 0),
    ([["0"]], 0),
    ([[[]]], 0),
    ([[NoPlace()]], 0),
    ([[0, 1], [1]], 1),
    ([[0, 1], [1, 0, 1]], 1),
    ([[0, 1], []], 1),
    ([[0, 1], [1, 1]], 1),
    ([[0, 1], [1, None]], 1),
    ([[0, 1], [1, False]], 1),
    ([[0, True], [1, 0]], 0),
    ([[0, False], [1, 0]], 0),
    ([[0, 1.0], [1, 0]], 0),
    ([[0, "-"], [1, 0]], 0),
    ([[0, [1]], [1, 0]], 0),
    ([[0, (1,)], [1, 0]], 0),
    ([[0, NoPlace()], [1, 0]], 0),
    ([[0, 1], [True, 0]], 1),
    ([[0, 1], ["1", 0]], 1),
    ([[0, 1, 1], [1, 0, 1], [1, 1, 5]], 2),
    ([[0, 1, 1], [1, 0, 1.5], [1, 1, 5]], 1),
    ([[0, 1, 1], [1, 0], [1]], 1),
    ([[0, 1, 1], [1, 0, 1], [1, 1, 0, 1]], 2),
]

# Webs with a ring below 0, of two and of more places.
LOW_WEBS = [
    [[0, 2], [-3, 0]],
    [[0, None, None], [None, 0, -1], [None, 0, 0]],
    [[0, 1, None], [None, 0, 1], [-3, None, 0]],
    [[0, -FAR, None, None], [None, 0, FAR, None], [None, None, 0, FAR], [-FAR - 1, None, None, 0]],
    [[0, 9, 9, None], [9, 0, 9, None], [9, 9, 0, 1], [-20, None, None, 0]],
]

# Sound webs that are not single: rings of length 0, and two shortest ways, also out of reach of the place 0.
TWOFOLD_WEBS = [
    [[0, 0], [0, 0]],
    [[0, 3], [-3, 0]],
    [[0, 1, None], [None, 0, 1], [-2, None, 0]],
    [[0, 1, 2], [None, 0, 1], [None, None, 0]],
    [[0, 1, None, None], [None, 0, None, None], [None, None, 0, FAR], [None, None, -FAR, 0]],
    [[0, None, None, None], [None, 0, 1, 1], [None, None, 0, 0], [None, None, None, 0]],
]


def full_web(size, length=1):
    """A web with all edges, all of one length."""
    return [[0 if x == y else length for y in range(size)] for x in range(size)]


def bare_web(size):
    """A web without edges."""
    return full_web(size, None)


def line_web(size, length=1):
    """A web whose edges lead from each place to the next one."""
    return [[0 if x == y else length if y == x + 1 else None for y in range(size)] for x in range(size)]


def ring_web(size, lengths):
    """A web whose edges are those of one ring through all places, with these lengths."""
    web = bare_web(size)
    for x in range(size):
        web[x][(x + 1) % size] = lengths[x]
    return web


def every_web(size, lengths):
    """All webs of so many places with these things between different places."""
    for things in itertools.product(lengths, repeat=size * (size - 1)):
        left = list(things)
        yield [[0 if x == y else left.pop() for y in range(size)] for x in range(size)]


def mixed_webs(size, many, lengths, seed=1):
    """So many webs with things from `lengths` between different places, the same ones in each run."""
    numbers = mixed_numbers(seed)
    for _ in range(many):
        web = full_web(size)
        for x, y in itertools.permutations(range(size), 2):
            web[x][y] = lengths[next(numbers) % len(lengths)]
        yield web


def mixed_numbers(seed=1):
    """Numbers in no plain order, the same ones in each run."""
    while True:
        seed = (seed * 6364136223846793005 + 1442695040888963407) % 2**64
        yield seed >> 33


def mixed_order(things, numbers):
    """The things in no plain order."""
    left = list(things)
    return [left.pop(next(numbers) % len(left)) for _ in things]


def mixed_choice(things, many, numbers):
    """So many of the things, some perhaps several times; none if there are no things."""
    return [things[next(numbers) % len(things)] for _ in range(many if things else 0)]


def small_webs():
    """Webs of 0 to 5 places, sound and not, for the slow searches."""
    for size in [0, 1]:
        yield bare_web(size)
    yield from every_web(2, [None, -FAR, -2, -1, 0, 1, 2, FAR])
    yield from every_web(3, [None, -1, 0, 1])
    yield from mixed_webs(4, 300, [None, None, -1, 0, 1, 2, 3])
    yield from mixed_webs(4, 300, [None, 1, 2, 3, FAR])
    yield from mixed_webs(5, 100, [None, None, None, -1, 0, 1, 2, 4, 8])
    yield from mixed_webs(5, 100, [None, 1, 3, 5, 7, 11, 13])


def large_sound_webs():
    """Sound webs of eight places of several forms."""
    yield bare_web(8)
    yield full_web(8)
    yield full_web(8, 0)
    yield full_web(8, FAR)
    yield line_web(8, -FAR)
    yield ring_web(8, [FAR, -FAR, 5, -1, 0, 2, -7, 1])
    yield ring_web(8, [FAR, -FAR, 5, -1, 0, 2, -7, 2])
    yield [[0 if x == y else 10 * x - 9 * y + 8 * 9 for y in range(8)] for x in range(8)]
    yield [[0 if x == y else -FAR if x < y else None for y in range(8)] for x in range(8)]
    yield [[0 if x == y else 2**x if x > y else None for y in range(8)] for x in range(8)]


def all_edges(web):
    """All edges of a web, in ascending order."""
    return [(x, y) for x, y in itertools.permutations(range(len(web)), 2) if web[x][y] is not None]


def has_low_ring(web):
    """Whether some ring of a web of a few places has a length below 0."""
    return min(slow_ring_lengths(web, slow_ways(web)), default=0) < 0


def sound_webs(webs):
    """Those of the webs that are sound."""
    return [web for web in webs if not has_low_ring(web)]


def single_webs(webs):
    """Those of the webs that are single."""
    return [web for web in sound_webs(webs) if slow_is_single(web, slow_ways(web))]


def is_joined(web, places):
    """Whether each of these places is joined to the next one by an edge."""
    return all(x != y and web[x][y] is not None for x, y in zip(places, places[1:]))


def slow_length(web, walk):
    """The length of a walk, edge by edge."""
    total = 0
    for index in range(1, len(walk)):
        total += web[walk[index - 1]][walk[index]]
    return total


def slow_ways(web):
    """All ways, by trying each order of each choice of places."""
    size = len(web)
    tried = [list(way) for many in range(1, size + 1) for way in itertools.permutations(range(size), many)]
    return [way for way in tried if is_joined(web, way)]


def slow_ring_lengths(web, ways):
    """The lengths of all rings."""
    return [slow_length(web, [*way, way[0]]) for way in ways if len(way) > 1 and is_joined(web, [way[-1], way[0]])]


def slow_lengths(web, ways):
    """A dict with the sorted lengths of all ways from x to y for each (x, y) that has one."""
    found = {}
    for way in ways:
        found.setdefault((way[0], way[-1]), []).append(slow_length(web, way))
    return {pair: sorted(lengths) for pair, lengths in found.items()}


def slow_is_single(web, ways):
    """Whether a sound web is single, by the words of the document."""
    if 0 in slow_ring_lengths(web, ways):
        return False
    for lengths in slow_lengths(web, ways).values():
        if lengths.count(lengths[0]) > 1:
            return False
    return True


def slow_distances(web):
    """The table of the distances of a sound web, from all ways."""
    lengths = slow_lengths(web, slow_ways(web))
    places = range(len(web))
    return [[lengths.get((x, y), [None])[0] for y in places] for x in places]


def slow_values(web, edges, source, rounds):
    """The values after so many rounds, edge by edge."""
    values = [None] * len(web)
    values[source] = 0
    for x, y in edges * rounds:
        if values[x] is not None:
            total = values[x] + web[x][y]
            values[y] = total if values[y] is None else min(values[y], total)
    return values


def serves(web, edges, sources, table):
    """Whether one round over the edges is enough from each of these sources, by the table of the distances."""
    return all(slow_values(web, edges, source, 1) == table[source] for source in sources)


def edges_on_way(way):
    """The edges of a way or a walk."""
    return list(zip(way, way[1:]))


def rises(edges, part):
    """Whether these edges occur in the list one after the other, by all choices of so many of its things."""
    return tuple(part) in itertools.combinations(edges, len(part))


def slow_runs(edges, walk):
    """The runs of a walk in a list, by all ways to cut it, or None."""
    steps = edges_on_way(walk)
    if not steps:
        return 0
    for many in range(len(steps)):
        for cuts in itertools.combinations(range(1, len(steps)), many):
            ends = [0, *cuts, len(steps)]
            if all(rises(edges, steps[start:end]) for start, end in zip(ends, ends[1:])):
                return many + 1
    return None


def loops_of_kij(places):
    for k in places:
        for i in places:
            for j in places:
                yield i, j, k


def loops_of_kji(places):
    for k in places:
        for j in places:
            for i in places:
                yield i, j, k


def loops_of_ikj(places):
    for i in places:
        for k in places:
            for j in places:
                yield i, j, k


def loops_of_jki(places):
    for j in places:
        for k in places:
            for i in places:
                yield i, j, k


def loops_of_ijk(places):
    for i in places:
        for j in places:
            for k in places:
                yield i, j, k


def loops_of_jik(places):
    for j in places:
        for i in places:
            for k in places:
                yield i, j, k


WRITTEN = {
    "kij": loops_of_kij, "kji": loops_of_kji, "ikj": loops_of_ikj,
    "jki": loops_of_jki, "ijk": loops_of_ijk, "jik": loops_of_jik,
}


def slow_tables(web, loops, most):
    """The tables after 0 to so many passes, by the loops as they are written out."""
    table = [list(row) for row in web]
    yield [list(row) for row in table]
    for _ in range(most):
        for i, j, k in WRITTEN[loops](range(len(web))):
            first, second = table[i][k], table[k][j]
            if first is not None and second is not None:
                if table[i][j] is None or table[i][j] > first + second:
                    table[i][j] = first + second
        yield [list(row) for row in table]


def web_of_way(way, length=1):
    """The web whose only edges are those of a way through all its places."""
    web = bare_web(len(way))
    for x, y in edges_on_way(way):
        web[x][y] = length
    return web


def in_small_numbers(way):
    """The way with the numbers from 0 on in the same order."""
    return [sorted(way).index(number) for number in way]


def slow_passes(way, loops, length=1):
    """The least number of passes that see a way, by the loops in the web that has its edges only."""
    return passes_gone_through(tuple(in_small_numbers(way)), loops, length)


@functools.cache
def passes_gone_through(way, loops, length):
    """The number of passes after which the table has a number for the ends of a way through all its places."""
    tables = slow_tables(web_of_way(way, length), loops, 8)
    return next(passes for passes, table in enumerate(tables) if table[way[0]][way[-1]] is not None)


def lists_in(thing):
    """All lists in a thing, itself included, as often as they occur there."""
    found = [thing] if isinstance(thing, list) else []
    for part in thing if isinstance(thing, (list, tuple)) else []:
        found += lists_in(part)
    return found


class WatchedCase(unittest.TestCase):
    """Tests that watch what calls do to arguments, and what lists they return."""

    def watched(self, function, **arguments):
        """Call a function by names, by position and again, and return what it returns.

        Fail if an argument is changed, if a list in the result is not new or stands there twice, or if
        the results differ.
        """
        values = list(arguments.values())
        before = repr(values)
        results = [function(**arguments), function(*values), function(**copy.deepcopy(arguments))]
        self.assertEqual(before, repr(values))
        found = [id(part) for part in lists_in(results)] + [id(part) for part in given_lists(values)]
        self.assertEqual(len(found), len(set(found)))
        self.assertEqual([repr(results[0])] * 3, [repr(result) for result in results])
        return results[0]

    def assert_raises(self, error, field, function, *arguments):
        """Fail unless a call raises just this error, with what was passed or this number in its field."""
        with self.assertRaises(error) as caught:
            function(*arguments)
        self.assertIs(error, caught.exception.__class__)
        (name, found), = vars(caught.exception).items()
        if isinstance(field, int) and not isinstance(field, bool):
            self.assertEqual((field, int), (found, found.__class__), name)
        else:
            self.assertIs(field, found, name)

    def assert_wrong_webs(self, function, *others):
        """Fail unless InvalidWeb is raised for each wrong web, whatever the other arguments are."""
        for web, place in WRONG_WEBS:
            self.assert_raises(InvalidWeb, place, function, web, *others)

    def assert_low_webs(self, function, *others):
        """Fail unless LowRing with a ring below 0 is raised for each web that is not sound."""
        for web in LOW_WEBS:
            with self.assertRaises(LowRing) as caught:
                function(web, *others)
            self.assert_low_ring(web, caught.exception.ring)

    def assert_twofold_webs(self, function, *others):
        """Fail unless NotSingle, which has no fields, is raised for each sound web that is not single."""
        for web in TWOFOLD_WEBS:
            with self.assertRaises(NotSingle) as caught:
                function(web, *others)
            self.assertIs(NotSingle, caught.exception.__class__)
            self.assertEqual({}, vars(caught.exception))

    def assert_plain(self, web, edges):
        """Fail unless this is a list with each edge of the web exactly once."""
        self.assertIsInstance(edges, list)
        for edge in edges:
            self.assertEqual([tuple, int, int], [edge.__class__, *[place.__class__ for place in edge]])
        self.assertEqual(all_edges(web), sorted(edges))

    def assert_low_ring(self, web, ring):
        """Fail unless this is a ring of the web with a length below 0."""
        self.assertIsInstance(ring, list)
        self.assertGreaterEqual(len(ring), 2)
        self.assertTrue(all(place.__class__ is int and 0 <= place < len(web) for place in ring))
        self.assertEqual(len(ring), len(set(ring)))
        closed = [*ring, ring[0]]
        self.assertTrue(is_joined(web, closed))
        self.assertLess(slow_length(web, closed), 0)


def given_lists(values):
    """The lists in arguments, each once: callers may pass one list in several places."""
    return list({id(part): part for part in lists_in(values)}.values())
