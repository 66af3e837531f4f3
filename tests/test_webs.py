"""looporder.webs: ordinary inputs, edges, and the slow searches; points 2, 3, 5, 6 and 22."""

import itertools

from looporder.webs import distances, edges_of, is_single, low_ring, renumbered, turned_web, web_of_edges
from tests import helper
from tests.helper import FAR, bare_web, full_web, line_web, ring_web


class ExamplesTest(helper.WatchedCase):
    def test_examples_of_the_document(self):
        web = web_of_edges(4, [(0, 2, 1), (2, 1, 1), (1, 3, 1), (0, 3, 9)])
        self.assertEqual([[0, None, 1, 9], [None, 0, None, 1], [None, 1, 0, None], [None, None, None, 0]], web)
        self.assertEqual([[0, 2, 1, 3], [None, 0, None, 1], [None, 1, 0, 2], [None, None, None, 0]], distances(web))
        self.assertEqual((True, [(0, 2), (0, 3), (1, 3), (2, 1)]), (is_single(web), edges_of(web)))
        self.assertEqual([0, 1], sorted(low_ring([[0, 2], [-3, 0]])))


class WebOfEdgesTest(helper.WatchedCase):
    def made(self, size, edges):
        return self.watched(web_of_edges, size=size, edges=edges)

    def test_webs_without_edges(self):
        for size in range(9):
            self.assertEqual(bare_web(size), self.made(size, []))

    def test_lengths_of_every_sign(self):
        self.assertEqual([[0, -3], [0, 0]], self.made(2, [(1, 0, 0), (0, 1, -3)]))
        self.assertEqual([[0, FAR], [-FAR, 0]], self.made(2, [(0, 1, FAR), (1, 0, -FAR)]))

    def test_the_web_need_not_be_sound(self):
        self.assertEqual([[0, 1], [-2, 0]], self.made(2, [(0, 1, 1), (1, 0, -2)]))

    def test_edges_in_any_order_make_the_web_they_come_from(self):
        for web in [full_web(8, -2), line_web(8), ring_web(5, [1, 2, 3, -4, 0]), *helper.mixed_webs(4, 30, [None, 0, 1])]:
            edges = [(x, y, web[x][y]) for x, y in edges_of(web)]
            for order in [edges, edges[::-1], edges[1::2] + edges[::2]]:
                self.assertEqual(web, self.made(len(web), order))

    def test_rows_are_not_shared(self):
        web = web_of_edges(3, [])
        web[0][1] = 5
        self.assertEqual([[0, 5, None], [None, 0, None], [None, None, 0]], web)


class ChangedWebsTest(helper.WatchedCase):
    def test_edges_of(self):
        self.assertEqual([], self.watched(edges_of, web=[]))
        self.assertEqual([], self.watched(edges_of, web=[[0]]))
        self.assertEqual([(0, 1), (1, 0)], self.watched(edges_of, web=[[0, 0], [-1, 0]]))
        self.assertEqual([(0, 1), (1, 2)], self.watched(edges_of, web=line_web(3, 0)))
        self.assertEqual(list(itertools.permutations(range(8), 2)), self.watched(edges_of, web=full_web(8)))

    def test_turned_web(self):
        self.assertEqual([], self.watched(turned_web, web=[]))
        self.assertEqual([[0]], self.watched(turned_web, web=[[0]]))
        self.assertEqual([[0, -5], [2, 0]], self.watched(turned_web, web=[[0, 2], [-5, 0]]))
        self.assertEqual([[0, None, None], [1, 0, None], [None, 1, 0]], self.watched(turned_web, web=line_web(3)))
        self.assertEqual(full_web(8, FAR), self.watched(turned_web, web=full_web(8, FAR)))

    def test_turned_web_edge_by_edge(self):
        for web in [*helper.small_webs(), *helper.large_sound_webs()]:
            turned = turned_web(web)
            for x, y in itertools.product(range(len(web)), repeat=2):
                self.assertEqual(web[x][y], turned[y][x])
            self.assertEqual(web, turned_web(turned))

    def test_renumbered(self):
        self.assertEqual([], self.watched(renumbered, web=[], numbering=[]))
        self.assertEqual([[0]], self.watched(renumbered, web=[[0]], numbering=[0]))
        self.assertEqual([[0, -5], [2, 0]], self.watched(renumbered, web=[[0, 2], [-5, 0]], numbering=[1, 0]))
        # 0 -> 1 -> 2 with the numbers 1, 2 and 0: a numbering and its inverse differ here.
        web = [[0, 7, None], [None, 0, 8], [None, None, 0]]
        expected = [[0, None, None], [None, 0, 7], [8, None, 0]]
        self.assertEqual(expected, self.watched(renumbered, web=web, numbering=[1, 2, 0]))

    def test_renumbered_edge_by_edge(self):
        for web in helper.mixed_webs(4, 20, [None, -9, 0, 1, 2, 3]):
            for numbering in itertools.permutations(range(4)):
                changed = self.watched(renumbered, web=web, numbering=list(numbering))
                for x, y in itertools.product(range(4), repeat=2):
                    self.assertEqual(web[x][y], changed[numbering[x]][numbering[y]])

    def test_renumbered_eight_places(self):
        web = line_web(8, FAR)
        self.assertEqual(turned_web(web), self.watched(renumbered, web=web, numbering=[7, 6, 5, 4, 3, 2, 1, 0]))
        self.assertEqual(web, self.watched(renumbered, web=web, numbering=list(range(8))))

    def test_none_of_them_needs_a_sound_web(self):
        for web in helper.LOW_WEBS:
            self.watched(edges_of, web=web)
            self.watched(turned_web, web=web)
            self.watched(renumbered, web=web, numbering=list(range(len(web))))


class OneListTwiceTest(helper.WatchedCase):
    def test_webs_with_one_list_for_several_places(self):
        row = [0, 0, 0]
        web = [row, row, row]
        self.assertEqual([(0, 1), (0, 2), (1, 0), (1, 2), (2, 0), (2, 1)], self.watched(edges_of, web=web))
        self.assertEqual(full_web(3, 0), self.watched(turned_web, web=web))
        self.assertEqual(full_web(3, 0), self.watched(renumbered, web=web, numbering=[2, 0, 1]))
        self.assertEqual(full_web(3, 0), self.watched(distances, web=web))
        self.assertIsNone(self.watched(low_ring, web=web))
        self.assertIs(False, self.watched(is_single, web=web))


class SoundnessTest(helper.WatchedCase):
    def test_webs_with_a_low_ring(self):
        for web in helper.LOW_WEBS:
            self.assert_low_ring(web, self.watched(low_ring, web=web))

    def test_a_low_ring_through_all_eight_places(self):
        web = ring_web(8, [FAR, -FAR, 5, -1, 0, 2, -7, 0])
        self.assertEqual(list(range(8)), sorted(self.watched(low_ring, web=web)))
        self.assert_low_ring(web, low_ring(web))
        self.assert_low_ring(turned_web(web), low_ring(turned_web(web)))

    def test_sound_webs(self):
        for web in [[], [[0]], *helper.large_sound_webs()]:
            self.assertIsNone(self.watched(low_ring, web=web))

    def test_a_ring_of_length_0_is_not_low(self):
        self.assertIsNone(self.watched(low_ring, web=[[0, FAR], [-FAR, 0]]))
        self.assert_low_ring([[0, FAR], [-FAR - 1, 0]], low_ring([[0, FAR], [-FAR - 1, 0]]))

    def test_a_low_ring_behind_ways_that_lead_to_it_and_from_it(self):
        web = web_of_edges(8, [(0, 1, -5), (1, 2, -5), (2, 3, 4), (3, 4, -5), (4, 2, 0), (4, 5, -9), (5, 6, -9), (6, 7, -9)])
        for numbering in [[0, 1, 2, 3, 4, 5, 6, 7], [7, 6, 5, 4, 3, 2, 1, 0], [3, 1, 4, 0, 5, 2, 7, 6]]:
            changed = renumbered(web, numbering)
            self.assert_low_ring(changed, low_ring(changed))
            self.assertEqual(sorted(numbering[2:5]), sorted(low_ring(changed)))


class DistancesTest(helper.WatchedCase):
    def found(self, web):
        return self.watched(distances, web=web)

    def test_small_and_bare_webs(self):
        self.assertEqual([], self.found([]))
        self.assertEqual([[0]], self.found([[0]]))
        self.assertEqual(bare_web(8), self.found(bare_web(8)))

    def test_lengths_below_0_and_rings_of_length_0(self):
        self.assertEqual([[0, -3], [3, 0]], self.found([[0, -3], [3, 0]]))
        self.assertEqual([[0, -1, -2], [1, 0, -1], [2, 1, 0]], self.found(ring_web(3, [-1, -1, 2])))

    def test_many_long_edges(self):
        web = line_web(8, FAR)
        self.assertEqual(7 * FAR, self.found(web)[0][7])
        self.assertEqual(-7 * FAR, self.found(line_web(8, -FAR))[0][7])
        self.assertEqual([[0 if x == y else FAR for y in range(8)] for x in range(8)], self.found(full_web(8, FAR)))

    def test_edges_taken_in_the_worst_order(self):
        turned = turned_web(line_web(8, 3))
        expected = [[3 * (x - y) if x >= y else None for y in range(8)] for x in range(8)]
        self.assertEqual(expected, self.found(turned))


class SingleTest(helper.WatchedCase):
    def found(self, web):
        return self.watched(is_single, web=web)

    def test_single_webs(self):
        for web in [[], [[0]], bare_web(8), full_web(8), full_web(8, FAR), line_web(8, -FAR), [[0, 0], [None, 0]]]:
            self.assertIs(True, self.found(web))

    def test_a_ring_of_length_0(self):
        for web in [[[0, 3], [-3, 0]], [[0, FAR], [-FAR, 0]], full_web(2, 0), ring_web(8, [0] * 8)]:
            self.assertIs(False, self.found(web))
        self.assertIs(False, self.found(ring_web(5, [4, -4, 1, 2, -3])))
        self.assertIs(True, self.found(ring_web(5, [4, -4, 1, 2, -2])))

    def test_two_shortest_ways(self):
        self.assertIs(False, self.found(web_of_edges(3, [(0, 1, 1), (1, 2, 1), (0, 2, 2)])))
        self.assertIs(True, self.found(web_of_edges(3, [(0, 1, 1), (1, 2, 1), (0, 2, 3)])))
        self.assertIs(True, self.found(web_of_edges(3, [(0, 1, 1), (1, 2, 1), (0, 2, 1)])))
        diamond = [(0, 1, 1), (0, 2, 2), (1, 3, 3), (2, 3, 2), (3, 4, 1)]
        self.assertIs(False, self.found(web_of_edges(5, diamond)))
        self.assertIs(True, self.found(web_of_edges(5, [*diamond, (0, 3, 3)])))

    def test_two_shortest_ways_from_an_inner_place_only(self):
        edges = [(6, 7, 1), (7, 3, FAR), (7, 4, -FAR), (3, 5, -FAR), (4, 5, FAR)]
        self.assertIs(False, self.found(web_of_edges(8, edges)))


class SlowSearchTest(helper.WatchedCase):
    def check(self, web):
        ways = helper.slow_ways(web)
        ring = self.watched(low_ring, web=web)
        if min(helper.slow_ring_lengths(web, ways), default=0) < 0:
            self.assert_low_ring(web, ring)
            return
        self.assertIsNone(ring)
        lengths = helper.slow_lengths(web, ways)
        places = range(len(web))
        expected = [[lengths.get((x, y), [None])[0] for y in places] for x in places]
        self.assertEqual(expected, self.watched(distances, web=web))
        self.assertIs(helper.slow_is_single(web, ways), self.watched(is_single, web=web))

    def test_small_webs(self):
        for web in helper.small_webs():
            self.check(web)

    def test_some_webs_of_six_to_eight_places(self):
        for web in helper.mixed_webs(6, 10, [None, None, -1, 1, 2, 3, 5, 8]):
            self.check(web)
        for web in helper.mixed_webs(8, 3, [None, None, None, 1, 2, 3, 5, 8, 13, 21, FAR]):
            self.check(web)
        self.check(full_web(8))


class BeyondTheBoundsTest(helper.WatchedCase):
    def test_more_than_eight_places(self):
        web = line_web(11, 2)
        self.assertEqual([(x, x + 1) for x in range(10)], edges_of(web))
        self.assertEqual(20, distances(web)[0][10])
        self.assertEqual(20, distances(renumbered(web, list(range(11))[::-1]))[10][0])
        self.assertEqual((None, True), (low_ring(turned_web(web)), is_single(web)))

    def test_longer_lengths(self):
        self.assertEqual([[0, 10**30], [None, 0]], distances(web_of_edges(2, [(0, 1, 10**30)])))
