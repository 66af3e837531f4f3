"""looporder.walks: ordinary inputs, edges, and the slow searches; points 2, 3 and 6."""

import itertools

from looporder.walks import each_way, length_of, shortest_way
from looporder.webs import web_of_edges
from tests import helper
from tests.helper import FAR, bare_web, full_web, line_web, ring_web


class LengthTest(helper.WatchedCase):
    def found(self, web, walk):
        return self.watched(length_of, web=web, walk=walk)

    def test_walks_of_one_place(self):
        self.assertEqual(0, self.found([[0]], [0]))
        self.assertEqual(0, self.found(full_web(8, 3), [7]))

    def test_ways(self):
        web = web_of_edges(4, [(0, 2, 1), (2, 1, 1), (1, 3, 1), (0, 3, 9)])
        self.assertEqual(3, self.found(web, [0, 2, 1, 3]))
        self.assertEqual(9, self.found(web, [0, 3]))
        self.assertEqual(-7 * FAR, self.found(line_web(8, -FAR), list(range(8))))

    def test_walks_that_pass_places_again(self):
        self.assertEqual(5, self.found([[0, 3], [-1, 0]], [0, 1, 0, 1]))
        self.assertEqual(0, self.found(ring_web(3, [4, -6, 2]), [1, 2, 0] * 20 + [1]))
        self.assertEqual(40 * FAR, self.found(full_web(2, FAR), [0, 1] * 20 + [0]))

    def test_the_web_need_not_be_sound(self):
        self.assertEqual(-3, self.found([[0, 2], [-3, 0]], [1, 0]))
        self.assertEqual(-30, self.found([[0, -5], [-5, 0]], [0, 1, 0, 1, 0, 1, 0]))

    def test_edges_of_length_0(self):
        self.assertEqual(0, self.found(full_web(3, 0), [0, 1, 2, 0]))

    def test_all_walks_of_three_edges(self):
        for web in helper.mixed_webs(3, 40, [None, -7, 0, 1, 10, 100]):
            for walk in itertools.product(range(3), repeat=4):
                if helper.is_joined(web, walk):
                    self.assertEqual(helper.slow_length(web, walk), self.found(web, list(walk)))

    def test_more_than_eight_places(self):
        self.assertEqual(10, length_of(line_web(11), list(range(11))))


class ShortestWayTest(helper.WatchedCase):
    def found(self, web, x, y):
        return self.watched(shortest_way, web=web, x=x, y=y)

    def test_from_a_place_to_itself(self):
        for web in [[[0]], bare_web(8), full_web(8), full_web(8, 0), [[0, 3], [-3, 0]]]:
            for place in range(len(web)):
                self.assertEqual([place], self.found(web, place, place))

    def test_one_shortest_way(self):
        web = web_of_edges(4, [(0, 2, 1), (2, 1, 1), (1, 3, 1), (0, 3, 9)])
        self.assertEqual([0, 2, 1, 3], self.found(web, 0, 3))
        self.assertEqual([2, 1], self.found(web, 2, 1))
        self.assertIsNone(self.found(web, 3, 0))
        self.assertIsNone(self.found(web, 1, 2))

    def test_webs_of_eight_places(self):
        self.assertIsNone(self.found(bare_web(8), 0, 7))
        self.assertEqual(list(range(8)), self.found(line_web(8, -FAR), 0, 7))
        self.assertIsNone(self.found(line_web(8, FAR), 7, 0))
        self.assertEqual([5, 2], self.found(full_web(8, FAR), 5, 2))
        self.assertEqual([3, 4, 5, 6, 7, 0, 1, 2], self.found(ring_web(8, [0] * 8), 3, 2))

    def test_ways_with_more_edges_may_be_shorter(self):
        web = [[0 if x == y else (y - x) ** 2 for y in range(8)] for x in range(8)]
        self.assertEqual(list(range(8)), self.found(web, 0, 7))
        self.assertEqual(list(range(8))[::-1], self.found(web, 7, 0))

    def check(self, web):
        lengths = helper.slow_lengths(web, helper.slow_ways(web))
        for x, y in itertools.product(range(len(web)), repeat=2):
            way = self.found(web, x, y)
            if (x, y) not in lengths:
                self.assertIsNone(way)
                continue
            self.assertEqual((x, y), (way[0], way[-1]))
            self.assertEqual(len(way), len(set(way)))
            self.assertTrue(helper.is_joined(web, way))
            self.assertEqual(lengths[x, y][0], helper.slow_length(web, way))

    def test_small_webs(self):
        for web in helper.small_webs():
            if min(helper.slow_ring_lengths(web, helper.slow_ways(web)), default=0) >= 0:
                self.check(web)

    def test_webs_full_of_rings_of_length_0(self):
        for heights in itertools.product([0, 1, -3], repeat=4):
            self.check([[heights[y] - heights[x] for y in range(4)] for x in range(4)])
        self.check(full_web(6, 0))

    def test_more_than_eight_places(self):
        self.assertEqual(list(range(11)), shortest_way(line_web(11), 0, 10))


class EachWayTest(helper.WatchedCase):
    def found(self, web):
        def ways(web):
            return list(each_way(web))

        by_name = list(each_way(web=web))
        found = self.watched(ways, web=web)
        self.assertEqual(by_name, found)
        return found

    def test_small_webs_by_hand(self):
        self.assertEqual([], self.found([]))
        self.assertEqual([[0]], self.found([[0]]))
        self.assertEqual([[0], [1], [2], [3], [4], [5]], self.found(bare_web(6)))
        self.assertEqual([[0], [0, 1], [1], [1, 0]], self.found(full_web(2, 0)))
        self.assertEqual([[0], [0, 1], [0, 1, 2], [1], [1, 2], [2]], self.found(line_web(3, -FAR)))

    def test_all_edges(self):
        found = self.found(full_web(6, FAR))
        self.assertEqual(6 + 30 + 120 + 360 + 720 + 720, len(found))
        self.assertEqual(sorted(helper.slow_ways(full_web(6))), found)

    def test_the_web_need_not_be_sound(self):
        self.assertEqual([[0], [0, 1], [1], [1, 0]], self.found([[0, 2], [-3, 0]]))
        self.assertEqual(325, len(self.found(full_web(5, -1))))

    def test_slow_search(self):
        for web in helper.small_webs():
            self.assertEqual(sorted(helper.slow_ways(web)), self.found(web))
        for web in helper.mixed_webs(6, 10, [None, None, None, -1, 1, FAR]):
            self.assertEqual(sorted(helper.slow_ways(web)), self.found(web))

    def test_changes_of_a_yielded_way_have_no_effect(self):
        web = full_web(4)
        expected = self.found(web)
        found = []
        for way in each_way(web):
            found.append(list(way))
            way.append(way[0])
            way.reverse()
            way[:] = way[:1] * 3
        self.assertEqual(expected, found)
        self.assertEqual(full_web(4), web)

    def test_two_generators_at_once(self):
        web = full_web(3)
        for way, other in zip(each_way(web), each_way(web)):
            self.assertEqual(way, other)
            self.assertIsNot(way, other)
