"""Wrong inputs of looporder.webs and looporder.walks: which error, with which field, in which order."""

from looporder.errors import InvalidEdges, InvalidOrder, InvalidSize, InvalidWalk, LowRing, TooMany, UnknownPlace
from looporder.walks import each_way, length_of, shortest_way
from looporder.webs import distances, edges_of, is_single, low_ring, renumbered, turned_web, web_of_edges
from tests import helper
from tests.helper import FAR, LOW_WEBS, NO_WHOLE_NUMBERS, ODD_THINGS, NoPlace, bare_web, full_web, line_web


def first_way(web):
    """The first value of each_way."""
    return next(each_way(web))


class WebTest(helper.WatchedCase):
    def test_wrong_webs(self):
        for function in [edges_of, turned_web, low_ring, distances, is_single, first_way]:
            self.assert_wrong_webs(function)

    def test_wrong_webs_come_before_other_errors(self):
        self.assert_wrong_webs(renumbered, None)
        self.assert_wrong_webs(renumbered, [0])
        self.assert_wrong_webs(length_of, None)
        self.assert_wrong_webs(length_of, [0])
        self.assert_wrong_webs(shortest_way, None, None)
        self.assert_wrong_webs(shortest_way, 0, 0)

    def test_a_web_that_is_neither_well_formed_nor_sound(self):
        for function in [distances, is_single]:
            with self.assertRaises(ValueError) as caught:
                function([[0, -1, None], [-1, 0, None], [None, None, 1]])
            self.assertEqual({"place": 2}, vars(caught.exception))

    def test_a_list_within_itself(self):
        web = []
        web.append(web)
        with self.assertRaises(ValueError) as caught:
            edges_of(web)
        self.assertEqual({"place": 0}, vars(caught.exception))


class LowRingTest(helper.WatchedCase):
    def test_functions_that_need_sound_webs(self):
        self.assert_low_webs(distances)
        self.assert_low_webs(is_single)
        self.assert_low_webs(shortest_way, 0, 1)
        self.assert_low_webs(shortest_way, 1, 1)

    def test_the_ring_need_not_be_within_reach(self):
        web = [[0, 1, None, None], [None, 0, None, None], [None, None, 0, -1], [None, None, -1, 0]]
        with self.assertRaises(LowRing) as caught:
            shortest_way(web, 0, 1)
        self.assertEqual([2, 3], sorted(caught.exception.ring))

    def test_low_rings_come_right_after_the_web(self):
        self.assert_low_webs(shortest_way, 9, 0)
        self.assert_low_webs(shortest_way, None, None)

    def test_the_ring_is_new(self):
        rings = []
        for _ in range(2):
            with self.assertRaises(LowRing) as caught:
                distances(LOW_WEBS[0])
            rings.append(caught.exception.ring)
        self.assertEqual(rings[0], rings[1])
        self.assertIsNot(rings[0], rings[1])


class SizeTest(helper.WatchedCase):
    def test_wrong_sizes(self):
        for size in [-1, 9, 10, 10**12, -(10**12), 8.0, *NO_WHOLE_NUMBERS]:
            self.assert_raises(InvalidSize, size, web_of_edges, size, [])

    def test_the_size_comes_first(self):
        for edges in [None, [None], [(0, 0, 0)], ()]:
            self.assert_raises(InvalidSize, 9, web_of_edges, 9, edges)


class EdgesTest(helper.WatchedCase):
    def test_no_lists(self):
        for edges in [*ODD_THINGS, 0, ((0, 1, 1),), {(0, 1, 1): 1}]:
            self.assert_raises(InvalidEdges, None, web_of_edges, 3, edges)

    def test_wrong_things(self):
        wrong = [(0, 1), (0, 1, 1, 1), [0, 1, 1], (0, 0, 1), (0, 0, 0), (0, 3, 1), (3, 0, 1), (-1, 0, 1), (0, -1, 1)]
        wrong += [(thing, 1, 1) for thing in NO_WHOLE_NUMBERS]
        wrong += [(1, thing, 1) for thing in NO_WHOLE_NUMBERS]
        wrong += [(0, 1, thing) for thing in NO_WHOLE_NUMBERS]
        for thing in [*wrong, *NO_WHOLE_NUMBERS, 0, 1]:
            self.assert_raises(InvalidEdges, 0, web_of_edges, 3, [thing])
            self.assert_raises(InvalidEdges, 2, web_of_edges, 3, [(0, 2, 1), (2, 0, -1), thing, None])

    def test_edges_that_stood_before(self):
        self.assert_raises(InvalidEdges, 1, web_of_edges, 3, [(0, 1, 1), (0, 1, 2)])
        self.assert_raises(InvalidEdges, 2, web_of_edges, 3, [(0, 1, 0), (1, 0, 0), (0, 1, 0), None])
        self.assert_raises(InvalidEdges, 3, web_of_edges, 3, [(0, 1, 0), (1, 0, 0), (1, 2, 5), (1, 0, -FAR)])

    def test_no_edges_fit_into_the_smallest_webs(self):
        self.assert_raises(InvalidEdges, 0, web_of_edges, 0, [(0, 1, 1)])
        self.assert_raises(InvalidEdges, 0, web_of_edges, 1, [(0, 0, 0)])


class OrderTest(helper.WatchedCase):
    def test_no_lists_of_as_many_things(self):
        for numbering in [*ODD_THINGS, 0, (0, 1, 2), [], [0], [0, 1], [0, 1, 2, 3], [9, 9], [None] * 4]:
            self.assert_raises(InvalidOrder, None, renumbered, bare_web(3), numbering)
        self.assert_raises(InvalidOrder, None, renumbered, [], [0])
        self.assert_raises(InvalidOrder, None, renumbered, [], ())

    def test_wrong_things(self):
        for thing in [-1, 3, 4, *NO_WHOLE_NUMBERS]:
            self.assert_raises(InvalidOrder, 0, renumbered, bare_web(3), [thing, 1, 2])
            self.assert_raises(InvalidOrder, 1, renumbered, bare_web(3), [0, thing, 0])
            self.assert_raises(InvalidOrder, 2, renumbered, bare_web(3), [2, 1, thing])

    def test_places_that_stood_before(self):
        self.assert_raises(InvalidOrder, 1, renumbered, bare_web(3), [0, 0, 1])
        self.assert_raises(InvalidOrder, 2, renumbered, bare_web(3), [0, 1, 0])
        self.assert_raises(InvalidOrder, 7, renumbered, full_web(8), [7, 1, 2, 3, 4, 5, 6, 7])


class PlaceTest(helper.WatchedCase):
    def test_no_places(self):
        for thing in [-1, 3, FAR, *NO_WHOLE_NUMBERS]:
            self.assert_raises(UnknownPlace, thing, shortest_way, full_web(3), thing, 0)
            self.assert_raises(UnknownPlace, thing, shortest_way, full_web(3), 2, thing)

    def test_x_comes_before_y(self):
        self.assert_raises(UnknownPlace, 4, shortest_way, full_web(3), 4, 5)
        self.assert_raises(UnknownPlace, 5, shortest_way, full_web(3), 1, 5)
        thing = NoPlace()
        self.assert_raises(UnknownPlace, thing, shortest_way, full_web(3), thing, 5)

    def test_the_web_without_places_has_none(self):
        self.assert_raises(UnknownPlace, 0, shortest_way, [], 0, 0)


class WalkTest(helper.WatchedCase):
    def test_no_lists_of_one_or_more_things(self):
        for walk in [*ODD_THINGS, 0, (0, 1), []]:
            self.assert_raises(InvalidWalk, None, length_of, full_web(3), walk)
        self.assert_raises(InvalidWalk, None, length_of, [], [])

    def test_wrong_things(self):
        for thing in [-1, 3, FAR, *NO_WHOLE_NUMBERS]:
            self.assert_raises(InvalidWalk, 0, length_of, full_web(3), [thing])
            self.assert_raises(InvalidWalk, 0, length_of, full_web(3), [thing, thing])
            self.assert_raises(InvalidWalk, 3, length_of, full_web(3), [0, 1, 0, thing, 5])
        self.assert_raises(InvalidWalk, 0, length_of, [], [0])

    def test_missing_edges(self):
        self.assert_raises(InvalidWalk, 1, length_of, line_web(3), [1, 0])
        self.assert_raises(InvalidWalk, 1, length_of, line_web(3), [0, 2, 9])
        self.assert_raises(InvalidWalk, 2, length_of, line_web(3), [0, 1, 0])
        self.assert_raises(InvalidWalk, 7, length_of, line_web(8), [0, 1, 2, 3, 4, 5, 6, 0, None])

    def test_no_edge_leads_from_a_place_to_itself(self):
        self.assert_raises(InvalidWalk, 1, length_of, [[0]], [0, 0])
        self.assert_raises(InvalidWalk, 2, length_of, full_web(3, 0), [0, 1, 1, 2])

    def test_wrong_walks_in_webs_that_are_not_sound(self):
        self.assert_raises(InvalidWalk, 1, length_of, [[0, 2], [-3, 0]], [0, 0])


class TooManyTest(helper.WatchedCase):
    def test_seven_places_and_more(self):
        for size in [7, 8, 9, 11]:
            for web in [bare_web(size), full_web(size), full_web(size, -1)]:
                self.assert_raises(TooMany, size, first_way, web)

    def test_wrong_webs_come_before(self):
        for place in [0, 6]:
            web = bare_web(7)
            web[place][3] = "1"
            with self.assertRaises(ValueError) as caught:
                first_way(web)
            self.assertEqual({"place": place}, vars(caught.exception))

    def test_errors_come_only_with_the_first_value(self):
        for web in [None, [[1]], bare_web(7), [[0, 1], [1]]]:
            generator = each_way(web)
            with self.assertRaises(ValueError):
                next(generator)
            self.assertEqual([], list(generator))
