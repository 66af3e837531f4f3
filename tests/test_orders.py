"""looporder.orders: ordinary inputs, edges, and the slow searches; points 2, 3 and 11 to 15."""

import itertools
import math

from looporder.orders import (
    count_lists, count_lists_for, halved_list, list_for, list_for_all, list_whatever, ring_of_edges,
)
from looporder.rounds import rounds_for_all, runs
from looporder.webs import distances, web_of_edges
from tests import helper
from tests.helper import FAR, bare_web, full_web, line_web, ring_web

WEB = [[0, None, 1, 9], [None, 0, None, 1], [None, 1, 0, None], [None, None, None, 0]]
# A star, a chain and a web of pairs, with rings of two places only.
PAIRS = [(0, 1, 1), (1, 0, 2), (1, 2, 3), (2, 1, 1), (1, 3, 1), (3, 1, 2), (3, 4, 1), (4, 3, 1)]


def few_edges(webs):
    """Those of the webs that have at most six edges."""
    return [web for web in webs if len(helper.all_edges(web)) <= 6]


def small_single_webs():
    """Single webs of up to five places with at most six edges."""
    yield from [[], [[0]], bare_web(3), line_web(5, -FAR), ring_web(4, [1, 2, -3, 4]), ring_web(5, [1] * 5)]
    yield web_of_edges(4, [(0, 1, 1), (1, 2, 1), (2, 0, 1), (2, 3, 1), (0, 2, 9)])
    yield web_of_edges(4, [(3, 0, 1), (0, 1, 1), (1, 2, 1), (2, 0, 1), (0, 2, 1)])
    yield web_of_edges(5, [(0, 1, 1), (1, 2, 2), (2, 0, 3), (2, 3, 4), (3, 4, 5), (4, 2, 6)])
    yield from helper.single_webs(helper.every_web(2, [None, -1, 0, 2]))
    yield from helper.single_webs(helper.mixed_webs(3, 40, [None, -1, 1, 2, 4]))
    yield from helper.single_webs(few_edges(helper.mixed_webs(4, 60, [None, None, 1, 2, 4, 7])))
    yield from helper.single_webs(few_edges(helper.mixed_webs(5, 30, [None, None, None, 1, 2, 4, 7])))


def shortest_ways(web):
    """All shortest ways of a sound web."""
    table = helper.slow_distances(web)
    return [way for way in helper.slow_ways(web) if helper.slow_length(web, way) == table[way[0]][way[-1]]]


class ExamplesTest(helper.WatchedCase):
    def test_examples_of_the_document(self):
        self.assertEqual([1, 4, 1], [count_lists(3, number) for number in [1, 2, 3]])
        self.assertEqual([(0, 3), (0, 2), (2, 1), (1, 3)], halved_list(WEB, [3, 1, 2, 0]))
        self.assertEqual((4, 1), (count_lists_for(WEB, 0), rounds_for_all(WEB, list_for_all(WEB))))
        self.assertEqual(2, count_lists_for(web_of_edges(4, [(0, 1, 1), (1, 2, 1), (1, 3, 1)]), 0))
        self.assertEqual(3, len(ring_of_edges([[0, 1, None], [None, 0, 1], [1, None, 0]])))


class CountListsTest(helper.WatchedCase):
    def found(self, many, number):
        return self.watched(count_lists, many=many, number=number)

    def test_no_edges(self):
        self.assertEqual([1] + [0] * 60, [self.found(0, number) for number in range(61)])

    def test_small_numbers(self):
        rows = [[0, 1, 0], [0, 1, 1, 0], [0, 1, 4, 1, 0], [0, 1, 11, 11, 1, 0], [0, 1, 26, 66, 26, 1, 0]]
        for many, row in enumerate(rows, 1):
            self.assertEqual(row, [self.found(many, number) for number in range(many + 2)])

    def test_numbers_beyond_the_edges(self):
        self.assertEqual([0, 0, 0, 0], [self.found(*pair) for pair in [(1, 0), (60, 0), (1, 60), (59, 60)]])

    def test_the_greatest_numbers(self):
        self.assertEqual((1, 1, 2**60 - 61), (self.found(60, 60), self.found(60, 1), self.found(60, 2)))
        self.assertEqual(self.found(60, 30), self.found(60, 31))

    def test_sums(self):
        for many in range(1, 61):
            row = [self.found(many, number) for number in range(61)]
            self.assertEqual(math.factorial(many), sum(row))
            self.assertEqual(math.factorial(many + 1) // 2, sum(number * count for number, count in enumerate(row)))

    def test_all_lists_of_a_way(self):
        for many in range(1, 7):
            web = line_web(many + 1)
            way = list(range(many + 1))
            found = [runs(web, list(edges), way) for edges in itertools.permutations(helper.all_edges(web))]
            for number in range(9):
                self.assertEqual(found.count(number), self.found(many, number))

    def test_the_places_of_the_way_do_not_matter(self):
        way = [2, 4, 0, 3, 1]
        web = web_of_edges(5, [(x, y, -1) for x, y in helper.edges_on_way(way)])
        found = [helper.slow_runs(edges, way) for edges in itertools.permutations(helper.all_edges(web))]
        self.assertEqual([1, 11, 11, 1], [found.count(number) for number in range(1, 5)])


class HalvedListTest(helper.WatchedCase):
    def found(self, web, order):
        return self.watched(halved_list, web=web, order=order)

    def test_small_and_bare_webs(self):
        self.assertEqual([], self.found([], []))
        self.assertEqual([], self.found([[0]], [0]))
        self.assertEqual([], self.found(bare_web(8), [7, 0, 6, 1, 5, 2, 4, 3]))

    def test_all_edges(self):
        expected = [(0, 1), (0, 2), (1, 2), (2, 0), (2, 1), (1, 0)]
        self.assertEqual(expected, self.found(full_web(3), [0, 1, 2]))
        expected = [(2, 0), (2, 1), (0, 1), (1, 2), (1, 0), (0, 2)]
        self.assertEqual(expected, self.found(full_web(3), [2, 0, 1]))
        expected = [(x, y) for x in range(8) for y in range(x + 1, 8)]
        expected += [(x, y) for x in range(7, -1, -1) for y in range(x)]
        self.assertEqual(expected, self.found(full_web(8, FAR), list(range(8))))

    def test_edges_of_length_0(self):
        self.assertEqual([(1, 0), (0, 1)], self.found(full_web(2, 0), [1, 0]))

    def test_the_web_need_not_be_sound(self):
        self.assertEqual([(0, 1), (1, 0)], self.found([[0, 2], [-3, 0]], [0, 1]))
        self.assertEqual([(1, 0), (0, 1)], self.found([[0, 2], [-3, 0]], [1, 0]))
        for web in helper.LOW_WEBS:
            self.assertEqual(helper.all_edges(web), sorted(self.found(web, list(range(len(web))))))

    def test_the_words_of_the_document(self):
        for web in helper.mixed_webs(4, 10, [None, -1, 0, 1]):
            for order in itertools.permutations(range(4)):
                place = order.index
                edges = helper.all_edges(web)
                first = [edge for edge in edges if place(edge[0]) < place(edge[1])]
                second = [edge for edge in edges if place(edge[0]) > place(edge[1])]
                first.sort(key=lambda edge: (place(edge[0]), place(edge[1])))
                second.sort(key=lambda edge: (-place(edge[0]), place(edge[1])))
                self.assertEqual(first + second, self.found(web, list(order)))

    def test_runs_of_ways(self):
        numbers = helper.mixed_numbers()
        for web in helper.mixed_webs(5, 10, [None, 1, 2, 3]):
            order = helper.mixed_order(range(5), numbers)
            edges = self.found(web, order)
            for way in helper.slow_ways(web):
                if len(way) > 1:
                    at = [order.index(place) for place in way]
                    early = [index for index in range(1, len(way) - 1) if at[index] < min(at[index - 1], at[index + 1])]
                    self.assertEqual(1 + len(early), runs(web, edges, way))

    def test_half_as_many_rounds(self):
        numbers = helper.mixed_numbers()
        for size in range(1, 9):
            webs = [line_web(size, -FAR), full_web(size, 0), *helper.mixed_webs(size, 10, [None, 1, 2, 3, 5, 8, 13])]
            for web in webs:
                order = helper.mixed_order(range(size), numbers)
                self.assertLessEqual(rounds_for_all(web, self.found(web, order)), (size + 1) // 2)


class ListForTest(helper.WatchedCase):
    def check(self, web, source):
        """Fail unless the list is plain and one round by it is enough."""
        edges = self.watched(list_for, web=web, source=source)
        self.assert_plain(web, edges)
        self.assertTrue(helper.serves(web, edges, [source], distances(web)))

    def test_small_and_bare_webs(self):
        self.assertEqual([], self.watched(list_for, web=[[0]], source=0))
        self.assertEqual([], self.watched(list_for, web=bare_web(8), source=7))

    def test_ordinary_webs(self):
        for source in range(4):
            self.check(WEB, source)
        self.assertLess(list_for(WEB, 0).index((0, 2)), list_for(WEB, 0).index((2, 1)))

    def test_webs_that_are_not_single(self):
        for web in [*helper.TWOFOLD_WEBS, ring_web(8, [FAR, -FAR, 3, -3, 0, 0, 1, -1])]:
            for source in range(len(web)):
                self.check(web, source)

    def test_eight_places(self):
        turned = [[line_web(8, FAR)[y][x] for y in range(8)] for x in range(8)]
        for web in [*helper.large_sound_webs(), turned, *helper.mixed_webs(8, 10, [None, 1, 2, 3, 5, 8, 13])]:
            for source in range(8):
                self.check(web, source)

    def test_small_webs(self):
        webs = [*helper.every_web(2, [None, -1, 0, 1]), *helper.mixed_webs(3, 200, [None, -1, 0, 1, 2])]
        webs += helper.mixed_webs(5, 60, [None, None, -1, 0, 1, 2, 3])
        for web in helper.sound_webs(webs):
            for source in range(len(web)):
                self.check(web, source)

    def test_more_than_eight_places(self):
        self.check(full_web(11, 3), 10)


class CountListsForTest(helper.WatchedCase):
    def found(self, web, source):
        return self.watched(count_lists_for, web=web, source=source)

    def test_small_and_bare_webs(self):
        self.assertEqual((1, 1), (self.found([[0]], 0), self.found(bare_web(8), 4)))

    def test_ordinary_webs(self):
        self.assertEqual([4, 24, 12, 24], [self.found(WEB, source) for source in range(4)])

    def test_eight_places(self):
        self.assertEqual(1, self.found(line_web(8, -FAR), 0))
        self.assertEqual(7, self.found(line_web(8, -FAR), 1))
        self.assertEqual(math.factorial(7), self.found(line_web(8, FAR), 7))
        self.assertEqual(math.factorial(56), self.found(full_web(8, FAR), 3))
        web = full_web(8, 100)
        for x in range(7):
            web[x][x + 1] = 1
        self.assertEqual(math.factorial(56) // math.factorial(7), self.found(web, 0))

    def test_trees(self):
        # 0 leads to 1 and 2, 1 to 3 and 4, 2 to 5, 5 to 6: the numbers of the edges are 3, 3, 1, 1, 2 and 1.
        edges = [(0, 1, 1), (0, 2, 1), (1, 3, 1), (1, 4, 1), (2, 5, 1), (5, 6, 1)]
        self.assertEqual(720 // 18, self.found(web_of_edges(7, edges), 0))
        self.assertEqual(5040 // 18, self.found(web_of_edges(7, [*edges, (0, 6, 9)]), 0))
        self.assertEqual(5040 // 6, self.found(web_of_edges(7, [*edges, (0, 6, 2)]), 0))

    def test_all_lists(self):
        for web in small_single_webs():
            table = helper.slow_distances(web)
            lists = list(itertools.permutations(helper.all_edges(web)))
            for source in range(len(web)):
                expected = sum(helper.serves(web, list(edges), [source], table) for edges in lists)
                self.assertEqual(expected, self.found(web, source))

    def test_more_than_eight_places(self):
        self.assertEqual(math.factorial(110), count_lists_for(full_web(11, 3), 10))


class ListForAllTest(helper.WatchedCase):
    def assert_ring(self, web, ring):
        """Fail unless this is a ring of edges."""
        self.assertIsInstance(ring, list)
        self.assertGreaterEqual(len(ring), 2)
        self.assertEqual(len(ring), len(set(ring)))
        table = distances(web)
        for (x, y), (start, z) in zip(ring, ring[1:] + ring[:1]):
            self.assertEqual(y, start)
            self.assertEqual(3, len({x, y, z}))
            self.assertEqual(table[x][z], web[x][y] + web[y][z])
        for edge in ring:
            self.assertEqual([tuple, int, int], [edge.__class__, *[place.__class__ for place in edge]])

    def check(self, web):
        """Fail unless the list or the ring is right; return whether there is a list."""
        edges = self.watched(list_for_all, web=web)
        ring = self.watched(ring_of_edges, web=web)
        if edges is None:
            self.assert_ring(web, ring)
            return False
        self.assertIsNone(ring)
        self.assert_plain(web, edges)
        self.assertTrue(helper.serves(web, edges, range(len(web)), distances(web)))
        return True

    def test_small_and_bare_webs(self):
        for web in [[], [[0]], bare_web(8)]:
            self.assertEqual([], self.watched(list_for_all, web=web))
            self.assertIsNone(self.watched(ring_of_edges, web=web))

    def test_webs_with_a_list(self):
        turned = [[line_web(8, 3)[y][x] for y in range(8)] for x in range(8)]
        for web in [WEB, line_web(8, -FAR), turned, full_web(8), full_web(8, FAR), web_of_edges(5, PAIRS)]:
            self.assertTrue(self.check(web))

    def test_rings_without_rings_of_edges(self):
        # Each way of two edges has a shorter one beside it.
        self.assertTrue(self.check([[0, 2, 3], [3, 0, 2], [2, 3, 0]]))
        # A ring of two places is none of edges.
        self.assertTrue(self.check([[0, 1], [1, 0]]))

    def test_webs_with_a_ring(self):
        for size in range(3, 9):
            self.assertFalse(self.check(ring_web(size, [FAR] * size)))
            self.assertEqual(size, len(ring_of_edges(ring_web(size, [1] * size))))

    def test_a_ring_with_edges_before_and_behind(self):
        edges = [(0, 1, 1), (1, 2, 1), (2, 3, 1), (3, 1, 1), (3, 4, 1), (4, 5, 1), (6, 5, 1), (6, 0, 1)]
        web = web_of_edges(7, edges)
        self.assertFalse(self.check(web))
        self.assertEqual([(1, 2), (2, 3), (3, 1)], sorted(ring_of_edges(web)))

    def test_a_ring_of_edges_that_passes_places_again(self):
        edges = [(1, 3, 1), (3, 2, 7), (2, 4, 3), (4, 3, 3), (3, 0, 3), (0, 1, 20)]
        web = web_of_edges(5, [*edges, (0, 2, 20), (1, 0, 1), (2, 0, 11), (2, 3, 11), (4, 0, 20), (4, 2, 1)])
        self.assertFalse(self.check(web))
        self.assertEqual(sorted((x, y) for x, y, _ in edges), sorted(ring_of_edges(web)))
        # No ring of places does: on each, two edges that follow one another are no shortest way.
        table = distances(web)
        for way in helper.slow_ways(web):
            closed = [*way, *way[:2]]
            if len(way) > 2 and helper.is_joined(web, closed):
                steps = zip(closed, closed[1:], closed[2:])
                self.assertTrue(any(web[x][y] + web[y][z] > table[x][z] for x, y, z in steps))

    def test_all_lists(self):
        found = []
        for web in small_single_webs():
            table = helper.slow_distances(web)
            lists = itertools.permutations(helper.all_edges(web))
            expected = any(helper.serves(web, list(edges), range(len(web)), table) for edges in lists)
            self.assertEqual(expected, self.check(web))
            found.append(expected)
        self.assertGreater(found.count(True), 20)
        self.assertGreater(found.count(False), 5)

    def test_mixed_webs(self):
        found = []
        for web in helper.single_webs(helper.mixed_webs(5, 80, [None, 3, 5, 9, 17, 33, 65])):
            found.append(self.check(web))
            # Edges that no edge follows are taken away, again and again: others are left exactly if there is a ring.
            follows = {(way[0], way[1]): [] for way in helper.slow_ways(web) if len(way) == 2}
            for way in shortest_ways(web):
                if len(way) == 3:
                    follows[(way[0], way[1])].append((way[1], way[2]))
            for _ in range(len(follows)):
                follows = {edge: [other for other in follows[edge] if follows[other]] for edge in follows}
            self.assertEqual(not any(follows.values()), found[-1])
        self.assertIn(True, found)
        self.assertIn(False, found)

    def test_more_than_eight_places(self):
        self.assertTrue(self.check(full_web(11, 3)))
        self.assertFalse(self.check(ring_web(11, [1] * 11)))


class ListWhateverTest(helper.WatchedCase):
    def check(self, web):
        """Fail unless all ways rise in the list, and there is one exactly if no ring has three places."""
        edges = self.watched(list_whatever, web=web)
        ways = helper.slow_ways(web)
        rings = [way for way in ways if len(way) > 2 and helper.is_joined(web, [way[-1], way[0]])]
        self.assertEqual(bool(rings), edges is None)
        if edges is not None:
            self.assert_plain(web, edges)
            for way in ways:
                self.assertEqual(min(len(way) - 1, 1), runs(web, edges, way))
        return edges

    def test_small_and_bare_webs(self):
        for web in [[], [[0]], bare_web(8)]:
            self.assertEqual([], self.watched(list_whatever, web=web))

    def test_webs_with_a_list(self):
        for web in [WEB, full_web(2), line_web(8, -FAR), web_of_edges(5, PAIRS)]:
            self.assertIsNotNone(self.check(web))

    def test_webs_with_a_ring(self):
        for size in range(3, 8):
            self.assertIsNone(self.check(ring_web(size, [1] * size)))
        self.assertIsNone(self.watched(list_whatever, web=ring_web(8, [FAR] * 8)))
        self.assertIsNone(self.watched(list_whatever, web=full_web(8)))

    def test_the_lengths_do_not_matter(self):
        # There is a list for the lengths here, but none whatever they are.
        self.assertIsNotNone(list_for_all(full_web(3)))
        self.assertIsNone(self.check(full_web(3)))
        for lengths in itertools.product([-FAR, -1, 0, 1, FAR], repeat=2):
            edges = [(0, 1, lengths[0]), (1, 0, lengths[1]), (1, 2, 5), (2, 1, -4)]
            self.assertIsNotNone(self.check(web_of_edges(3, edges)))

    def test_the_web_need_not_be_sound_or_single(self):
        self.assertIsNotNone(self.check([[0, 2], [-3, 0]]))
        self.assertIsNotNone(self.check(full_web(2, 0)))
        for web in [*helper.LOW_WEBS, *helper.TWOFOLD_WEBS]:
            self.check(web)

    def test_one_round_is_enough_for_many_lengths(self):
        numbers = helper.mixed_numbers()
        for edges in [PAIRS, [(0, 1, 1), (1, 2, 1), (0, 2, 1), (2, 3, 1), (1, 3, 1), (3, 2, 1)]]:
            listed = list_whatever(web_of_edges(5, edges))
            for _ in range(60):
                web = web_of_edges(5, [(x, y, next(numbers) % 6) for x, y, _ in edges])
                self.assertEqual(1, rounds_for_all(web, listed))

    def test_small_webs(self):
        for web in [*helper.mixed_webs(3, 60, [None, None, 1]), *helper.mixed_webs(4, 100, [None, None, -1, 1])]:
            self.check(web)
        for web in helper.mixed_webs(6, 100, [None, None, None, None, None, 1, 0]):
            self.check(web)

    def test_all_plain_lists(self):
        for web in few_edges(helper.mixed_webs(4, 40, [None, None, 1])):
            ways = [way for way in helper.slow_ways(web) if len(way) > 2]
            found = False
            for edges in itertools.permutations(helper.all_edges(web)):
                at = {edge: index for index, edge in enumerate(edges)}
                orders = [[at[edge] for edge in helper.edges_on_way(way)] for way in ways]
                found = found or all(order == sorted(order) for order in orders)
            self.assertEqual(found, list_whatever(web) is not None)

    def test_more_than_eight_places(self):
        web = line_web(11)
        self.assertEqual(helper.all_edges(web), list_whatever(web))
