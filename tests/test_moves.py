"""looporder.moves: ordinary inputs, edges, and the slow searches; points 2, 3 and 16."""

import itertools
import math

from looporder.moves import are_turned_rows, fewest_moved, turned_rows
from looporder.webs import distances, web_of_edges
from tests import helper
from tests.helper import FAR, NoPlace, bare_web, full_web, line_web, ring_web

WEB = [[0, None, 1, 9], [None, 0, None, 1], [None, 1, 0, None], [None, None, None, 0]]
LATE = [(1, 3), (2, 1), (0, 2), (0, 3)]
LINE = helper.edges_on_way(range(8))
TREE = web_of_edges(7, [(0, 1, 1), (0, 2, 1), (1, 3, 1), (1, 4, 1), (2, 5, 1), (5, 6, 1)])
# On the ways 0 1 3 and 0 2 5 6 one edge each has to be moved.
MIXED = [(5, 6), (1, 3), (0, 1), (0, 2), (1, 4), (2, 5)]


def mixed_cases(size, many, lengths, seed=1):
    """Single webs, each with a plain list."""
    numbers = helper.mixed_numbers(seed + 50)
    for web in helper.single_webs(helper.mixed_webs(size, many, lengths, seed)):
        yield web, helper.mixed_order(helper.all_edges(web), numbers)


def deep_cases():
    """Single webs of eight places with long ways, each with a plain list: trees and one edge more."""
    numbers = helper.mixed_numbers()
    for _ in range(60):
        edges = [(y - 1 - min(next(numbers) % 4, next(numbers) % 4, y - 1), y, 1) for y in range(1, 8)]
        web = web_of_edges(8, [*edges, (7, 0, FAR)])
        yield web, helper.mixed_order(helper.all_edges(web), numbers)


def leading_edges(web, source):
    """For each edge on shortest ways from the source, those before it there, by all ways."""
    ways = [[source]]
    for way in ways:
        ways += [[*way, y] for y in range(len(web)) if y not in way and helper.is_joined(web, [way[-1], y])]
    found = {}
    for place in range(len(web)):
        ends = [(helper.slow_length(web, way), helper.edges_on_way(way)) for way in ways if way[-1] == place]
        if ends and place != source:
            edges = min(ends)[1]
            found[edges[-1]] = edges[:-1]
    return found


def turned_pairs(web, edges, source):
    """The edges on shortest ways from the source, and all pairs of these that are turned."""
    leading = leading_edges(web, source)
    pairs = {(first, edge) for edge in leading for first in leading[edge] if edges.index(first) > edges.index(edge)}
    return list(leading), pairs


def most_kept(found, pairs):
    """The greatest number of edges of which no two are turned, by all choices of edges."""
    for many in range(len(found), 0, -1):
        for chosen in itertools.combinations(found, many):
            if not any(pair in pairs for pair in itertools.permutations(chosen, 2)):
                return many
    return 0


def moved_once(edges):
    """All lists that are reached by one move."""
    for index, edge in enumerate(edges):
        others = edges[:index] + edges[index + 1:]
        for at in range(len(edges)):
            yield others[:at] + (edge,) + others[at:]


def moves_to(edges):
    """A dict with the least number of moves for each list that is reached from a list of a few edges."""
    many = {tuple(edges): 0}
    waiting = [tuple(edges)]
    for order in waiting:
        for other in moved_once(order):
            if other not in many:
                many[other] = many[order] + 1
                waiting.append(other)
    return many


def stays(edges, others):
    """The greatest number of edges of a plain list that stand in the same order in another one."""
    at = [others.index(edge) for edge in edges]
    longest = []
    for index, place in enumerate(at):
        longest.append(1 + max([longest[before] for before in range(index) if at[before] < place], default=0))
    return max(longest, default=0)


class ExamplesTest(helper.WatchedCase):
    def test_examples_of_the_document(self):
        self.assertEqual((2, 1), (fewest_moved(WEB, LATE, 0)[0], len(turned_rows(WEB, LATE, 0))))
        self.assertIs(True, are_turned_rows(WEB, LATE, 0, [[(0, 2), (2, 1), (1, 3)]]))


class MovedCase(helper.WatchedCase):
    def moved(self, web, edges, source):
        """The number of moved edges; fail unless the list has these moves, and one round by it is enough."""
        found = self.watched(fewest_moved, web=web, edges=edges, source=source)
        self.assertEqual((tuple, int, list), (found.__class__, found[0].__class__, found[1].__class__))
        many, result = found
        self.assert_plain(web, result)
        self.assertEqual(many, len(edges) - stays(edges, result))
        self.assertTrue(helper.serves(web, result, [source], distances(web)))
        return many

    def rows(self, web, edges, source):
        """The turned rows; fail unless they are rows of edges that are a valid result."""
        found = self.watched(turned_rows, web=web, edges=edges, source=source)
        self.assertIs(True, self.watched(are_turned_rows, web=web, edges=edges, source=source, thing=found))
        self.assertIs(True, are_turned_rows(web, edges, source, found[::-1]))
        return found

    def check(self, web, edges, source):
        """Fail unless moves and rows are those of the slow search; return the number of moves."""
        listed, pairs = turned_pairs(web, edges, source)
        many = most_kept(listed, pairs)
        self.assertEqual(len(listed) - many, self.moved(web, edges, source))
        rows = self.rows(web, edges, source)
        self.assertEqual(many, len(rows))
        self.assertEqual(sorted(listed), sorted(edge for row in rows for edge in row))
        for row in rows:
            self.assertTrue(row)
            self.assertTrue(all(pair in pairs for pair in itertools.combinations(row, 2)))
        return len(listed) - many


class FewestMovedTest(MovedCase):
    def test_small_and_bare_webs(self):
        for web in [[[0]], bare_web(8)]:
            self.assertEqual((0, []), self.watched(fewest_moved, web=web, edges=[], source=0))

    def test_a_list_that_serves_stays(self):
        for index in range(4):
            edges = [(0, 2), (2, 1), (1, 3)]
            edges.insert(index, (0, 3))
            self.assertEqual((0, edges), self.watched(fewest_moved, web=WEB, edges=edges, source=0))
        self.assertEqual((0, LATE), self.watched(fewest_moved, web=WEB, edges=LATE, source=3))
        self.assertEqual((0, LATE), self.watched(fewest_moved, web=WEB, edges=LATE, source=1))

    def test_ordinary_lists(self):
        self.assertEqual([2, 0, 1, 0], [self.moved(WEB, LATE, source) for source in range(4)])
        self.assertEqual(1, self.moved(WEB, [(1, 3), (0, 3), (0, 2), (2, 1)], 0))
        self.assertEqual(2, self.moved(TREE, MIXED, 0))
        self.assertEqual((1, 0), (self.moved(TREE, MIXED, 2), self.moved(TREE, MIXED[1:] + MIXED[:1], 2)))

    def test_eight_places(self):
        self.assertEqual(6, self.moved(line_web(8, -FAR), LINE[::-1], 0))
        self.assertEqual(0, self.moved(line_web(8, FAR), LINE, 0))
        self.assertEqual(1, self.moved(line_web(8), LINE[1:] + LINE[:1], 0))
        self.assertEqual(1, self.moved(line_web(8), LINE[-1:] + LINE[:-1], 0))
        edges = helper.all_edges(full_web(8, FAR))
        self.assertEqual(0, self.moved(full_web(8, FAR), edges, 3))

    def test_edges_that_are_on_no_shortest_way_stay(self):
        ring = ring_web(8, [1] * 8)
        edges = helper.all_edges(ring)
        self.assertEqual([0, 0, 1, 2, 3, 3, 2, 1], [self.moved(ring, edges, source) for source in range(8)])

    def test_an_edge_is_kept_below_two_that_are_moved(self):
        web = line_web(5)
        self.assertEqual(2, self.moved(web, [(3, 4), (1, 2), (0, 1), (2, 3)], 0))
        self.assertEqual(2, self.moved(web, [(2, 3), (1, 2), (0, 1), (3, 4)], 0))
        self.assertEqual(2, self.moved(web, [(0, 1), (3, 4), (2, 3), (1, 2)], 0))

    def test_few_edges_with_all_moves(self):
        cases = list(mixed_cases(3, 60, [None, -1, 1, 2, 4])) + list(mixed_cases(4, 60, [None, None, None, 1, 2, 4]))
        cases += [(line_web(6), edges) for edges in ([*part] for part in itertools.permutations(LINE[:5]))][::7]
        for web, edges in cases:
            if len(edges) > 5:
                continue
            many = moves_to(edges)
            table = helper.slow_distances(web)
            for source in range(len(web)):
                enough = [many[order] for order in many if helper.serves(web, list(order), [source], table)]
                found, result = fewest_moved(web, edges, source)
                self.assertEqual(min(enough), found)
                self.assertEqual(found, many[tuple(result)])

    def test_both_directions(self):
        for web, edges in [*mixed_cases(5, 30, [None, 1, 3, 5, 11]), *deep_cases()]:
            for source in range(len(web)):
                listed = len(leading_edges(web, source))
                found = self.moved(web, edges, source)
                turned = self.moved(web, edges[::-1], source)
                self.assertGreaterEqual((listed - found) * (listed - turned), listed)

    def test_more_than_eight_places(self):
        web = line_web(20)
        self.assertEqual(18, self.moved(web, helper.all_edges(web)[::-1], 0))
        self.assertEqual(0, self.moved(web, helper.all_edges(web), 0))


class SlowSearchTest(MovedCase):
    def test_mixed_webs(self):
        found = []
        for web, edges in [*mixed_cases(4, 60, [None, 1, 2, 4, 8]), *mixed_cases(5, 30, [None, 1, 3, 5, 11, -1])]:
            found += [self.check(web, edges, source) for source in range(len(web))]
        self.assertEqual([0, 1, 2], sorted(set(found))[:3])

    def test_deep_webs(self):
        found = []
        for web, edges in deep_cases():
            found += [self.check(web, edges, source) for source in range(3)]
        self.assertEqual([0, 1, 2, 3, 4], sorted(set(found))[:5])

    def test_lists_of_a_long_way(self):
        numbers = helper.mixed_numbers()
        way = [3, 7, 0, 5, 1, 6, 2, 4]
        web = web_of_edges(8, [(x, y, -FAR) for x, y in helper.edges_on_way(way)])
        for _ in range(60):
            self.check(web, helper.mixed_order(helper.all_edges(web), numbers), 3)


class TurnedRowsTest(MovedCase):
    def test_small_and_bare_webs(self):
        for web in [[[0]], bare_web(8)]:
            self.assertEqual([], self.watched(turned_rows, web=web, edges=[], source=0))

    def test_no_shortest_ways(self):
        self.assertEqual([], self.rows(WEB, LATE, 3))

    def test_ordinary_lists(self):
        self.assertEqual([[(0, 2), (2, 1), (1, 3)]], self.rows(WEB, LATE, 0))
        self.assertEqual([[(0, 2)], [(1, 3)], [(2, 1)]], sorted(self.rows(WEB, LATE[::-1], 0)))
        self.assertEqual([LINE], self.rows(line_web(8, FAR), LINE[::-1], 0))
        self.assertEqual([[edge] for edge in LINE], sorted(self.rows(line_web(8, -FAR), LINE, 0)))
        self.assertEqual(4, len(self.rows(TREE, MIXED, 0)))

    def test_two_long_rows(self):
        # Rows that are taken one after the other, each as long as possible, may become three.
        edges = [LINE[index] for index in [4, 2, 5, 0, 3, 1]]
        self.assertEqual(2, len(self.rows(line_web(7), edges, 0)))

    def test_more_than_eight_places(self):
        web = line_web(20)
        self.assertEqual([helper.all_edges(web)], turned_rows(web, helper.all_edges(web)[::-1], 0))


class AreTurnedRowsTest(MovedCase):
    def assert_no(self, thing, web=WEB, edges=LATE, source=0):
        """Fail unless a thing is told to be no valid result."""
        self.assertIs(False, are_turned_rows(web, edges, source, thing))

    def test_things_of_any_kind(self):
        for thing in [*helper.NO_WHOLE_NUMBERS, 5, -1, 4, (2, 0), "((0, 2),)", {0: 1}, [None], [[]], [[], []]]:
            self.assert_no(thing)
            self.assert_no([thing])
            self.assert_no([[thing]])
            self.assert_no([[(0, 2), (2, 1), thing]])
            self.assert_no([[(0, 2), (2, 1), (thing, 3)]])
            self.assert_no([[(0, 2), (2, 1), (1, thing)]])
            self.assert_no([[(0, 2), (2, 1), (1, 3)], thing])
            self.assert_no([[(0, 2), (2, 1), (1, 3)], [thing]])

    def test_other_kinds_of_lists_and_tuples(self):
        self.assert_no(([(0, 2), (2, 1), (1, 3)],))
        self.assert_no([((0, 2), (2, 1), (1, 3))])
        self.assert_no([[[0, 2], [2, 1], [1, 3]]])
        self.assert_no({0: [(0, 2), (2, 1), (1, 3)]})
        self.assert_no([[(0, 2), (2, 1), (1, 3, 1)]])
        self.assert_no([[(0, 2), (2, 1), (1,)]])
        self.assert_no([[(0.0, 2), (2, 1), (1, 3)]])
        self.assert_no([[(0, 2), (2, 1), (True, 3)]])
        self.assert_no([[(False, 2), (2, 1), (1, 3)]])

    def test_kinds_that_compare_as_equal(self):
        line = line_web(3)
        self.assertIs(True, are_turned_rows(line, [(0, 1), (1, 2)], 0, [[(0, 1)], [(1, 2)]]))
        for thing in [[[(0, True)], [(1, 2)]], [[(0, 1)], [(True, 2)]], [[(0, 1.0)], [(1, 2)]], [[(0, 1)], [(1, 2.0)]]]:
            self.assertIs(False, are_turned_rows(line, [(0, 1), (1, 2)], 0, thing))

    def test_a_list_within_itself(self):
        thing = []
        thing.append(thing)
        self.assert_no(thing)
        self.assert_no([thing])

    def test_rows_that_are_not_turned(self):
        self.assert_no([[(2, 1), (0, 2), (1, 3)]])
        self.assert_no([[(1, 3), (2, 1), (0, 2)]])
        self.assert_no([[(0, 2), (1, 3), (2, 1)]])
        self.assert_no([[(0, 2), (2, 1), (1, 3)]], edges=LATE[::-1])
        self.assert_no([[(0, 2), (2, 1)], [(1, 3)]], edges=LATE[::-1])
        self.assert_no([[(0, 2), (2, 1), (1, 3)]], edges=[(2, 1), (1, 3), (0, 2), (0, 3)])
        # Edges of two branches are never turned.
        self.assert_no([[(0, 1)], [(0, 2)], [(1, 4), (2, 5)], [(1, 3)], [(5, 6)]], web=TREE, edges=MIXED[::-1])
        self.assert_no([[(0, 2), (5, 6)], [(0, 1), (1, 3), (1, 4)], [(2, 5)]], web=TREE, edges=MIXED)

    def test_more_rows_than_needed(self):
        self.assert_no([[(0, 2), (2, 1)], [(1, 3)]])
        self.assert_no([[(0, 2)], [(2, 1)], [(1, 3)]])
        self.assert_no([[(0, 2), (2, 1), (1, 3)], []])
        self.assert_no([[], [(0, 2), (2, 1), (1, 3)]])

    def test_missing_edges_edges_twice_and_other_edges(self):
        self.assert_no([])
        self.assert_no([[(0, 2), (1, 3)]])
        self.assert_no([[(0, 2), (2, 1)]])
        self.assert_no([[(0, 2), (2, 1), (1, 3), (1, 3)]])
        self.assert_no([[(0, 2), (2, 1), (1, 3)], [(1, 3)]])
        self.assert_no([[(0, 2), (2, 1), (1, 3), (0, 3)]])
        self.assert_no([[(0, 3)]])
        self.assert_no([[(0, 3), (0, 2), (2, 1), (1, 3)]])
        self.assert_no([[(0, 2), (0, 3), (2, 1), (1, 3)]])
        self.assert_no([[(0, 2), (2, 1), (3, 1)]])
        row = [(0, 2)]
        self.assert_no([row, row, [(1, 3)]], edges=LATE[::-1])
        # As many rows and edges as there should be, but one edge twice and one not at all.
        self.assert_no([[(0, 2)], [(2, 1)], [(2, 1)]], edges=LATE[::-1])

    def test_empty_rows_instead_of_edges(self):
        self.assert_no([[(0, 1), (1, 2)], []], web=line_web(3), edges=[(0, 1), (1, 2)])

    def test_no_edges_on_shortest_ways(self):
        self.assertIs(True, self.watched(are_turned_rows, web=WEB, edges=LATE, source=3, thing=[]))
        for thing in [[[]], (), None, [[(0, 2)]], 0, False, NoPlace()]:
            self.assert_no(thing, source=3)

    def test_rows_in_any_order(self):
        rows = [[(0, 2)], [(2, 1)], [(1, 3)]]
        for order in itertools.permutations(rows):
            self.assertIs(True, self.watched(are_turned_rows, web=WEB, edges=LATE[::-1], source=0, thing=list(order)))

    def test_long_rows(self):
        self.assert_no([[(0, 2)] * 100_000])
        self.assert_no([[(0, 2)]] * 100_000)

    def test_all_divisions(self):
        for order, expected in [([3, 0, 4, 2, 1], 1), ([2, 4, 1, 0, 3], 1), ([2, 3, 1, 0], 4), ([2, 0, 3, 1], 1)]:
            web = line_web(len(order) + 1)
            edges = [LINE[index] for index in order]
            listed, pairs = turned_pairs(web, edges, 0)
            many = most_kept(listed, pairs)
            found = 0
            for numbers in itertools.product(range(many), repeat=len(order)):
                rows = [[edge for edge, number in zip(listed, numbers) if number == at] for at in range(many)]
                valid = all(row and all(pair in pairs for pair in itertools.combinations(row, 2)) for row in rows)
                self.assertIs(valid, are_turned_rows(web, edges, 0, rows))
                found += valid
            self.assertEqual(expected * math.factorial(many), found)
