"""looporder.passes: ordinary inputs, edges, and the loops written out; points 2, 3, 17 and 18."""

import itertools

from looporder.passes import LOOPS, passes_needed, table_after
from looporder.webs import distances, turned_web, web_of_edges
from tests import helper
from tests.helper import FAR, NAMES, bare_web, full_web, line_web, ring_web, slow_tables, web_of_way

WEB = [[0, None, 1, 9], [None, 0, None, 1], [None, 1, 0, None], [None, None, None, 0]]
FEWEST = {"kij": 1, "kji": 1, "ikj": 2, "jki": 2, "ijk": 3, "jik": 3}


def some_webs():
    """Sound webs of 0 to 8 places."""
    yield from [[], [[0]], WEB, bare_web(5), line_web(7, -FAR), ring_web(7, [2, -2, FAR, -FAR, 0, 1, -1])]
    yield from helper.large_sound_webs()
    yield from helper.sound_webs(helper.every_web(2, [None, -1, 0, 1]))
    yield from helper.sound_webs(helper.mixed_webs(3, 100, [None, -1, 0, 1, 2]))
    yield from helper.sound_webs(helper.mixed_webs(5, 60, [None, None, -1, 0, 1, 2, 3, 5]))
    yield from helper.mixed_webs(6, 30, [None, None, None, 0, 1, 2, 3, 5, 8, 13])
    yield from helper.mixed_webs(7, 30, [None, None, None, None, 1, 2, 3, 5, 8, 13, FAR])
    yield from helper.mixed_webs(8, 30, [None, None, None, None, None, 1, 2, 3, 5, 8, 13, 21])
    for way in [[0, 2, 1, 3], [0, 1, 3, 2, 5, 6, 4], [0, 1, 2, 4, 3, 6, 7, 5], [6, 2, 5, 0, 4, 1, 3]]:
        yield web_of_way(way)
        yield web_of_way(way, -FAR)


class ExamplesTest(helper.WatchedCase):
    def test_examples_of_the_document(self):
        self.assertEqual([1, 2, 1], [passes_needed(WEB, loops) for loops in ["kij", "ikj", "ijk"]])
        self.assertEqual([0, 2, 1, 9], table_after(WEB, "ikj", 1)[0])


class LoopsTest(helper.WatchedCase):
    def test_names(self):
        self.assertIs(tuple, LOOPS.__class__)
        self.assertEqual(("kij", "kji", "ikj", "jki", "ijk", "jik"), LOOPS)


class TableTest(helper.WatchedCase):
    def found(self, web, loops, passes):
        return self.watched(table_after, web=web, loops=loops, passes=passes)

    def test_no_passes(self):
        for loops in NAMES:
            for web in [[], [[0]], WEB, bare_web(8), full_web(8, FAR), line_web(8, -FAR)]:
                self.assertEqual(web, self.found(web, loops, 0))

    def test_small_and_bare_webs(self):
        for loops in NAMES:
            for passes in [1, 2, 60]:
                for web in [[], [[0]], bare_web(8), full_web(8), full_web(8, 0), full_web(2, FAR)]:
                    self.assertEqual(web, self.found(web, loops, passes))

    def test_ordinary_webs(self):
        goal = [[0, 2, 1, 3], [None, 0, None, 1], [None, 1, 0, 2], [None, None, None, 0]]
        early = [[0, 2, 1, 9], [None, 0, None, 1], [None, 1, 0, 2], [None, None, None, 0]]
        for loops in ["kij", "kji", "jki", "ijk", "jik"]:
            self.assertEqual(goal, self.found(WEB, loops, 1))
        self.assertEqual(early, self.found(WEB, "ikj", 1))
        self.assertEqual(goal, self.found(WEB, "ikj", 2))

    def test_each_order_has_its_own_steps(self):
        # Two edges on, three orders of the loops see other ways of four places.
        seen = {}
        for loops in NAMES:
            ways = itertools.permutations(range(4))
            seen[loops] = [way for way in ways if self.found(web_of_way(way), loops, 1)[way[0]][way[-1]] is not None]
        self.assertEqual([24, 24, 16, 16], [len(seen[loops]) for loops in NAMES[:4]])
        self.assertEqual(seen["ijk"], seen["jik"])
        self.assertEqual(seen["jki"], sorted(way[::-1] for way in seen["ikj"]))
        self.assertEqual(4, len({str(seen[loops]) for loops in NAMES}))

    def test_sixty_passes(self):
        for loops in NAMES:
            for web in [line_web(8, -FAR), ring_web(8, [FAR, -FAR, 5, -1, 0, 2, -7, 1])]:
                self.assertEqual(distances(web), self.found(web, loops, 60))
            web = web_of_way([7, 3, 5, 1, 6, 0, 4, 2])
            self.assertEqual(distances(web), self.found(web, loops, 60))

    def test_rows_and_columns_are_not_exchanged(self):
        web = web_of_edges(3, [(0, 1, 5), (1, 2, 3)])
        self.assertEqual([[0, 5, 8], [None, 0, 3], [None, None, 0]], self.found(web, "ijk", 1))

    def test_loops_written_out(self):
        for web in some_webs():
            for loops in NAMES:
                for passes, table in enumerate(slow_tables(web, loops, 4)):
                    self.assertEqual(table, self.found(web, loops, passes))

    def test_tables_that_are_the_same(self):
        for web in some_webs():
            for passes in [1, 2, 3]:
                self.assertEqual(table_after(web, "kij", passes), table_after(web, "kji", passes))
                self.assertEqual(table_after(web, "ijk", passes), table_after(web, "jik", passes))

    def test_rows_and_columns_that_are_right(self):
        for web in some_webs():
            goal = distances(web)
            if not web:
                continue
            self.assertEqual(goal[-1], table_after(web, "ikj", 1)[-1])
            self.assertEqual([row[-1] for row in goal], [row[-1] for row in table_after(web, "jki", 1)])
            for loops in ["ijk", "jik"]:
                table = table_after(web, loops, 1)
                if len(web) > 1:
                    self.assertEqual((goal[-2][-1], goal[-1][-2]), (table[-2][-1], table[-1][-2]))
                table = table_after(web, loops, 2)
                self.assertEqual(goal[-1], table[-1])
                self.assertEqual([row[-1] for row in goal], [row[-1] for row in table])

    def test_webs_with_all_edges_turned_round(self):
        for web in some_webs():
            turned = turned_web(web)
            for passes in [1, 2, 3]:
                for loops, other in [("jki", "ikj"), ("ikj", "jki"), ("ijk", "ijk"), ("kij", "kij"), ("jik", "ijk")]:
                    expected = [list(column) for column in zip(*table_after(web, other, passes))]
                    self.assertEqual(expected, table_after(turned, loops, passes))

    def test_more_than_eight_places(self):
        web = line_web(11, 10**15)
        self.assertEqual(distances(web), table_after(web, "jik", 60))


class PassesNeededTest(helper.WatchedCase):
    def found(self, web, loops):
        return self.watched(passes_needed, web=web, loops=loops)

    def test_no_passes_are_needed(self):
        for loops in NAMES:
            for web in [[], [[0]], bare_web(8), full_web(8), full_web(8, 0), full_web(8, FAR), [[0, -5], [5, 0]]]:
                self.assertEqual(0, self.found(web, loops))

    def test_three_places(self):
        for loops in NAMES:
            self.assertEqual(1, self.found(line_web(3, -FAR), loops))
            for web in helper.sound_webs(helper.mixed_webs(3, 200, [None, -1, 0, 1, 2])):
                self.assertLessEqual(self.found(web, loops), 1)

    def test_four_places(self):
        self.assertEqual([1, 1, 2, 1, 1, 1], [self.found(WEB, loops) for loops in NAMES])
        self.assertEqual([1, 1, 1, 2, 2, 2], [self.found(web_of_way([0, 1, 3, 2]), loops) for loops in NAMES])
        self.assertEqual([1, 1, 2, 1, 1, 1], [self.found(web_of_way([0, 2, 1, 3], -FAR), loops) for loops in NAMES])

    def test_the_most_passes(self):
        for way in [[0, 1, 3, 2, 5, 6, 4], [0, 1, 2, 4, 3, 6, 7, 5]]:
            for length in [-FAR, 0, 1, FAR]:
                found = [self.found(web_of_way(way, length), loops) for loops in NAMES]
                self.assertEqual([1, 1, 2, 2, 3, 3], found)

    def test_numbers_that_fall(self):
        for loops in NAMES:
            self.assertEqual(1, self.found(line_web(8), loops))
            self.assertEqual(1, self.found(turned_web(line_web(8)), loops))

    def test_a_right_distance_is_needed_for_all_places(self):
        # After one pass all places have numbers, and all but one of these are distances.
        web = web_of_edges(4, [(0, 2, 1), (2, 1, 1), (1, 3, 1), (0, 3, 4)])
        self.assertEqual([0, 2, 1, 4], table_after(web, "ikj", 1)[0])
        self.assertEqual((1, 2), (self.found(web, "kij"), self.found(web, "ikj")))

    def test_passes_gone_through(self):
        found = {loops: [] for loops in NAMES}
        for web in some_webs():
            goal = distances(web)
            for loops in NAMES:
                tables = list(slow_tables(web, loops, 4))
                many = min(passes for passes, table in enumerate(tables) if table == goal)
                self.assertEqual(many, self.found(web, loops))
                self.assertLessEqual(many, FEWEST[loops] if len(web) > 6 else min(FEWEST[loops], 2))
                found[loops].append(many)
        for loops in NAMES:
            self.assertEqual(list(range(FEWEST[loops] + 1)), sorted(set(found[loops])))

    def test_distances_by_all_ways(self):
        for web in helper.sound_webs(helper.mixed_webs(4, 60, [None, -1, 0, 1, 2, 3])):
            goal = helper.slow_distances(web)
            for loops in NAMES:
                many = self.found(web, loops)
                self.assertEqual(goal, table_after(web, loops, many))
                if many > 0:
                    self.assertNotEqual(goal, table_after(web, loops, many - 1))

    def test_more_than_eight_places(self):
        self.assertEqual([1] * 6, [passes_needed(line_web(11), loops) for loops in NAMES])
