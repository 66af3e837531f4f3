"""looporder.numberings: ordinary inputs, edges, and the slow search through all numberings; points 2, 3 and 22."""

import itertools

from looporder.numberings import falling_numbering, good_numbering
from looporder.passes import passes_needed
from looporder.seen import unseen_way
from looporder.webs import renumbered, turned_web, web_of_edges
from tests import helper
from tests.helper import FAR, NAMES, bare_web, full_web, line_web, ring_web, slow_passes

WRONG_ORDERS = ["ikj", "jki", "ijk", "jik"]
# Five places in two rings of four and of three places that share an edge.
TWO_RINGS = web_of_edges(5, [(0, 1, 1), (1, 2, 1), (2, 3, 1), (3, 0, 1), (1, 4, 1), (4, 0, 1)])


def has_ring(web, fewest=2):
    """Whether a web has a ring of so many or more places, by all ways."""
    ways = [way for way in helper.slow_ways(web) if len(way) >= fewest]
    return any(helper.is_joined(web, [way[-1], way[0]]) for way in ways)


def falls(web, numbering):
    """Whether each edge leads to a place with a lesser number."""
    return all(numbering[y] < numbering[x] for x, y in helper.all_edges(web))


def slow_good_numbering(web, loops):
    """The least numbering by which one pass sees every way, by all numberings and all ways."""
    ways = helper.slow_ways(web)
    for numbering in itertools.permutations(range(len(web))):
        if all(slow_passes([numbering[place] for place in way], loops) <= 1 for way in ways):
            return list(numbering)
    return None


def webs_without_rings():
    """Webs without rings of 0 to 8 places, in which the greater numbers do not stand in front."""
    yield from [[], [[0]], bare_web(8), line_web(8), turned_web(line_web(8))]
    numbers = helper.mixed_numbers(3)
    for size in [2, 3, 4, 5, 6, 7, 8]:
        for web in helper.mixed_webs(size, 20, [None, 1, -FAR, FAR], size):
            place_of = helper.mixed_order(range(size), numbers)
            for x, y in itertools.permutations(range(size), 2):
                if place_of[x] < place_of[y]:
                    web[x][y] = None
            yield web


class ExamplesTest(helper.WatchedCase):
    def test_examples_of_the_document(self):
        web = web_of_edges(4, [(0, 2, 1), (2, 3, 1), (3, 1, 1)])
        self.assertEqual([3, 0, 2, 1], falling_numbering(web))
        web = web_of_edges(4, [(0, 3, 1), (3, 1, 1), (1, 2, 1)])
        self.assertEqual([0, 2, 3, 1], good_numbering(web, "ikj"))


class FallingNumberingTest(helper.WatchedCase):
    def found(self, web):
        return self.watched(falling_numbering, web=web)

    def test_the_smallest_webs(self):
        self.assertEqual([], self.found([]))
        self.assertEqual([0], self.found([[0]]))
        self.assertEqual([1, 0], self.found([[0, FAR], [None, 0]]))
        self.assertEqual([0, 1], self.found([[0, None], [-FAR, 0]]))

    def test_webs_without_edges(self):
        for size in range(9):
            self.assertEqual(list(range(size)), sorted(self.found(bare_web(size))))

    def test_webs_with_one_falling_numbering(self):
        self.assertEqual([7, 6, 5, 4, 3, 2, 1, 0], self.found(line_web(8)))
        self.assertEqual([0, 1, 2, 3, 4, 5, 6, 7], self.found(turned_web(line_web(8, -FAR))))
        web = [[0 if x == y else 0 if x < y else None for y in range(8)] for x in range(8)]
        self.assertEqual([7, 6, 5, 4, 3, 2, 1, 0], self.found(web))
        self.assertEqual([1, 2, 0], self.found(web_of_edges(3, [(1, 0, 0), (0, 2, -1)])))

    def test_webs_with_rings(self):
        for web in [[[0, 0], [0, 0]], [[0, 1], [1, 0]], full_web(8), full_web(8, FAR), *helper.LOW_WEBS]:
            self.assertIsNone(self.found(web))
        for size in range(3, 9):
            self.assertIsNone(self.found(ring_web(size, [0] * size)))
            self.assertIsNone(self.found(ring_web(size, [-1] * size)))

    def test_rings_beside_other_places(self):
        self.assertIsNone(self.found(web_of_edges(5, [(0, 1, 1), (2, 3, 1), (3, 2, 1)])))
        self.assertIsNone(self.found(web_of_edges(5, [(0, 1, 1), (1, 2, 1), (2, 3, 1), (3, 1, 1), (3, 4, 1)])))

    def test_all_webs_of_up_to_three_places(self):
        for size in range(4):
            for web in helper.every_web(size, [None, -1, 0, 1]):
                self.assert_falling(web)

    def test_mixed_webs(self):
        for size, things in [(4, [None, None, 1]), (5, [None, None, None, -1]), (6, [None] * 5 + [FAR])]:
            for web in helper.mixed_webs(size, 40, things):
                self.assert_falling(web)

    def assert_falling(self, web):
        numbering = self.found(web)
        self.assertIs(has_ring(web), numbering is None)
        if numbering is not None:
            self.assertEqual(list(range(len(web))), sorted(numbering))
            self.assertTrue(falls(web, numbering))

    def test_webs_without_rings_have_one(self):
        for web in webs_without_rings():
            numbering = self.found(web)
            self.assertEqual(list(range(len(web))), sorted(numbering))
            self.assertTrue(all(number.__class__ is int for number in numbering))
            self.assertTrue(falls(web, numbering))

    def test_one_pass_is_enough_by_it_and_the_other_way_round(self):
        for web in webs_without_rings():
            numbering = falling_numbering(web)
            for numbers in [numbering, [len(web) - 1 - number for number in numbering]]:
                other = renumbered(web, numbers)
                for loops in NAMES:
                    self.assertLessEqual(passes_needed(other, loops), 1)
                    if len(web) < 8:
                        self.assertIsNone(unseen_way(other, loops, 1))


class GoodNumberingTest(helper.WatchedCase):
    def found(self, web, loops):
        return self.watched(good_numbering, web=web, loops=loops)

    def test_the_smallest_webs(self):
        for loops in NAMES:
            for size in range(4):
                for length in [None, -FAR, 0, FAR]:
                    self.assertEqual(list(range(size)), self.found(full_web(size, length), loops))

    def test_each_numbering_will_do_with_k_outermost(self):
        for size in range(7):
            for loops in ["kij", "kji"]:
                self.assertEqual(list(range(size)), self.found(full_web(size), loops))

    def test_webs_without_edges_and_lines(self):
        for loops in NAMES:
            for web in [bare_web(6), line_web(6), turned_web(line_web(6, -FAR))]:
                self.assertEqual([0, 1, 2, 3, 4, 5], self.found(web, loops))

    def test_webs_of_one_way(self):
        web = helper.web_of_way([0, 3, 1, 2])
        expected = [[0, 1, 2, 3], [0, 1, 2, 3], [0, 2, 3, 1], [0, 1, 2, 3], [0, 1, 2, 3], [0, 1, 2, 3]]
        self.assertEqual(expected, [self.found(web, loops) for loops in NAMES])
        web = helper.web_of_way([0, 1, 3, 2])
        expected = [[0, 1, 2, 3], [0, 1, 2, 3], [0, 1, 2, 3], [0, 1, 3, 2], [0, 1, 3, 2], [0, 1, 3, 2]]
        self.assertEqual(expected, [self.found(web, loops) for loops in NAMES])

    def test_webs_with_all_edges(self):
        for size in [4, 5, 6]:
            for loops in WRONG_ORDERS:
                self.assertIsNone(self.found(full_web(size), loops))

    def test_rings(self):
        expected = {4: [None, None, [0, 2, 1, 3], [0, 2, 1, 3]], 5: [None] * 4, 6: [None] * 4}
        for size in [4, 5, 6]:
            for lengths in [[0] * size, [-1] * size, [FAR] * size]:
                found = [self.found(ring_web(size, lengths), loops) for loops in WRONG_ORDERS]
                self.assertEqual(expected[size], found)

    def test_webs_with_great_rings_have_none(self):
        webs = [TWO_RINGS]
        for size, things in [(4, [None, 1]), (5, [None, None, 1]), (6, [None, None, None, 1])]:
            webs += helper.mixed_webs(size, 40, things)
        for web in webs:
            for loops in WRONG_ORDERS:
                if has_ring(web, 4 if loops in ["ikj", "jki"] else 5):
                    self.assertIsNone(self.found(web, loops))

    def test_webs_need_not_be_sound(self):
        for web in helper.LOW_WEBS:
            for loops in NAMES:
                self.assertEqual(slow_good_numbering(web, loops), self.found(web, loops))

    def test_lengths_do_not_matter(self):
        for web in helper.mixed_webs(5, 30, [None, None, None, 0, -FAR, FAR]):
            other = [[0 if x == y else None if web[x][y] is None else 7 for y in range(5)] for x in range(5)]
            for loops in NAMES:
                self.assertEqual(self.found(other, loops), self.found(web, loops))

    def test_all_numberings_of_small_webs(self):
        webs = [TWO_RINGS, *helper.mixed_webs(4, 80, [None, 1]), *helper.mixed_webs(4, 40, [None, None, 1])]
        webs += helper.mixed_webs(5, 30, [None, None, 1])
        webs += helper.mixed_webs(5, 30, [None, None, None, 1])
        webs += helper.mixed_webs(6, 10, [None, None, None, None, 1])
        found = []
        for web in webs:
            for loops in NAMES:
                found.append(self.found(web, loops))
                self.assertEqual(slow_good_numbering(web, loops), found[-1])
        self.assertIn(None, found)
        self.assertGreater(len({str(numbering) for numbering in found}), 10)

    def test_one_pass_is_enough_in_the_renumbered_web(self):
        for web in helper.mixed_webs(6, 40, [None, None, None, None, 1, 2, 5]):
            for loops in NAMES:
                numbering = self.found(web, loops)
                if numbering is not None:
                    self.assertIsNone(unseen_way(renumbered(web, numbering), loops, 1))
                    self.assertLessEqual(passes_needed(renumbered(web, numbering), loops), 1)

    def test_webs_without_rings_have_one(self):
        for web in webs_without_rings():
            if len(web) < 7:
                for loops in NAMES:
                    self.assertLessEqual(self.found(web, loops), falling_numbering(web))
