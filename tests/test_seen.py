"""looporder.seen: ordinary inputs, edges, the rules of the document and slow searches; points 2, 3 and 18 to 21."""

import itertools
import math

from looporder.passes import passes_needed, table_after
from looporder.seen import count_seen, is_seen, passes_for, unseen_way
from looporder.webs import turned_web, web_of_edges
from tests import helper
from tests.helper import FAR, NAMES, bare_web, full_web, line_web, ring_web, slow_passes

WEB = [[0, None, 1, 9], [None, 0, None, 1], [None, 1, 0, None], [None, None, None, 0]]
WRONG_ORDERS = ["ikj", "jki", "ijk", "jik"]
# How many of the orders of one to seven numbers are seen by one pass.
ONE_PASS = {"ikj": [1, 2, 6, 16, 60, 300, 1813], "ijk": [1, 2, 6, 18, 62, 270, 1458]}
# The first ways of seven numbers that two passes of the innermost k do not see.
LONG = [0, 1, 3, 2, 5, 6, 4]


def orders_of(size):
    """All orders of the numbers from 0 on, as lists."""
    return [list(way) for way in itertools.permutations(range(size))]


def mixed_ways(size, many, seed=1):
    """So many orders of so many numbers, the same ones in each run."""
    numbers = helper.mixed_numbers(seed)
    return [helper.mixed_order(range(size), numbers) for _ in range(many)]


def some_ways():
    """All ways of up to five small numbers, and some of six, seven and eight."""
    for size in range(1, 6):
        yield from orders_of(size)
    yield from mixed_ways(6, 150)
    yield from mixed_ways(7, 60)
    yield from mixed_ways(8, 60)
    yield from [LONG, LONG[::-1], [0, 1, 2, 4, 3, 6, 7, 5], list(range(8)), list(range(8))[::-1]]


def seen_in_ikj(way):
    """Whether one pass of ikj sees a way, by the rule of the document."""
    if len(way) < 4:
        return True
    a, b = way[0], way[1]
    if b < a and seen_in_ikj(way[1:]):
        return True
    for index in range(2, len(way) - 1):
        first = index == 2 or (b < a and seen_in_ikj(way[1:index + 1]))
        if way[index] > b and first and seen_in_ikj([a] + way[index:]):
            return True
    return False


def seen_in_ijk(way):
    """Whether one pass of ijk sees a way, by the rule of the document."""
    if len(way) < 4:
        return True
    for index in range(1, len(way) - 1):
        first = index == 1 or (way[index] < way[-1] and seen_in_ijk(way[:index + 1]))
        if first and (index == len(way) - 2 or (way[index] < way[0] and seen_in_ijk(way[index:]))):
            return True
    return False


RULES = {
    "kij": lambda way: True, "kji": lambda way: True, "ijk": seen_in_ijk, "jik": seen_in_ijk,
    "ikj": seen_in_ikj, "jki": lambda way: seen_in_ikj(way[::-1]),
}


class ExamplesTest(helper.WatchedCase):
    def test_examples_of_the_document(self):
        found = (is_seen([0, 2, 1, 3], "ikj", 1), is_seen([5, 1, 3, 2, 9], "ikj", 1), passes_for([0, 1, 3, 2], "ijk"))
        self.assertEqual((False, True, 2), found)
        found = (unseen_way(WEB, "ikj", 1), unseen_way(WEB, "ijk", 1) is None)
        self.assertEqual(([0, 2, 1, 3], True), found)
        self.assertEqual([6, 16, 60], [count_seen(size, "ikj", 1) for size in [3, 4, 5]])


class PassesForTest(helper.WatchedCase):
    def found(self, way, loops):
        many = self.watched(passes_for, way=way, loops=loops)
        self.assertIs(int, many.__class__)
        return many

    def test_ways_without_inner_places(self):
        for loops in NAMES:
            for way in [[0], [1], [FAR], [0, 1], [1, 0], [7, 3], [0, FAR], [FAR, 5]]:
                self.assertEqual(0, self.found(way, loops))

    def test_ways_with_one_inner_place(self):
        for loops in NAMES:
            for way in [*orders_of(3), [FAR, 0, 7], [5, FAR, 9], [9, 3, FAR]]:
                self.assertEqual(1, self.found(way, loops))

    def test_ways_of_four_places(self):
        self.assertEqual([1, 1, 2, 1, 1, 1], [self.found([0, 2, 1, 3], loops) for loops in NAMES])
        self.assertEqual([1, 1, 1, 2, 2, 2], [self.found([0, 1, 3, 2], loops) for loops in NAMES])
        self.assertEqual([1, 1, 2, 1, 2, 2], [self.found([2, 3, 1, 0], loops) for loops in NAMES])

    def test_the_most_passes(self):
        for way in [LONG, [0, 1, 2, 4, 3, 6, 7, 5]]:
            self.assertEqual([1, 1, 2, 2, 3, 3], [self.found(way, loops) for loops in NAMES])

    def test_ways_that_rise_and_fall(self):
        for size in range(3, 9):
            for loops in NAMES:
                self.assertEqual(1, self.found(list(range(size)), loops))
                self.assertEqual(1, self.found(list(range(size))[::-1], loops))

    def test_only_the_order_of_the_numbers_counts(self):
        others = [[3 * number + 1 for number in range(8)], [FAR - 8 + number for number in range(8)]]
        others += [[0, 1, 2, 3, 4, 5, 6, FAR], [0, 9, 10, 11, 100, 1000, 123_456_789, FAR]]
        others += [[10**20 + number for number in range(8)]]
        for way in [*orders_of(4), *mixed_ways(6, 20), *mixed_ways(8, 20), LONG]:
            for loops in NAMES:
                many = self.found(way, loops)
                for other in others:
                    self.assertEqual(many, self.found([other[number] for number in way], loops))

    def test_loops_written_out(self):
        for way in some_ways():
            for loops in NAMES:
                self.assertEqual(slow_passes(way, loops), self.found(way, loops), (way, loops))

    def test_all_ways_of_six_places(self):
        for way in orders_of(6):
            for loops in WRONG_ORDERS:
                self.assertEqual(slow_passes(way, loops), passes_for(way, loops), (way, loops))

    def test_loops_written_out_whatever_the_lengths_are(self):
        for way in [*orders_of(4), *mixed_ways(7, 20), LONG]:
            for loops in NAMES:
                found = [slow_passes(way, loops, length) for length in [-FAR, -1, 0, 2, FAR]]
                self.assertEqual([self.found(way, loops)] * 5, found)

    def test_ways_with_other_numbers_in_webs_with_more_places(self):
        # What else is in a web does not matter: the places of the way need not be neighbours.
        for way in [[5, 1, 3, 2], [7, 6, 0, 4], [2, 7, 1, 5], [1, 6, 3, 7, 0], [0, 3, 6, 4, 7, 1]]:
            web = bare_web(8)
            for x, y in helper.edges_on_way(way):
                web[x][y] = 1
            for loops in NAMES:
                tables = [table_after(web, loops, passes)[way[0]][way[-1]] for passes in range(4)]
                first = next(passes for passes, length in enumerate(tables) if length is not None)
                self.assertEqual(first, self.found(way, loops))

    def test_no_more_passes_than_the_document_says(self):
        most = {"kij": 1, "kji": 1, "ikj": 2, "jki": 2, "ijk": 3, "jik": 3}
        for way in some_ways():
            for loops in NAMES:
                self.assertLessEqual(passes_for(way, loops), most[loops] if len(way) > 6 else min(most[loops], 2))


class RulesTest(helper.WatchedCase):
    def test_one_pass(self):
        for way in [*some_ways(), *orders_of(6), *mixed_ways(8, 300, 2)]:
            for loops in NAMES:
                self.assertEqual(RULES[loops](way), is_seen(way, loops, 1), (way, loops))

    def test_orders_that_see_the_same(self):
        for way in some_ways():
            for passes in range(4):
                self.assertIs(is_seen(way, "kij", passes), is_seen(way, "kji", passes))
                self.assertIs(is_seen(way, "ijk", passes), is_seen(way, "jik", passes))
                self.assertIs(is_seen(way, "ikj", passes), is_seen(way[::-1], "jki", passes))
                self.assertIs(is_seen(way, "ijk", passes), is_seen(way[::-1], "ijk", passes))

    def test_last_and_first_places_that_do_not_matter(self):
        for way in [*orders_of(4), *orders_of(5), *mixed_ways(7, 20)]:
            inner = [10 * number + 10 for number in way]
            for other in [0, 15, 25, 35, 99, FAR]:
                changed = [*inner[:-1], other]
                self.assertIs(is_seen(inner, "ikj", 1), is_seen(changed, "ikj", 1))
                self.assertIs(is_seen(inner[::-1], "jki", 1), is_seen(changed[::-1], "jki", 1))

    def test_tables_have_at_most_the_lengths_of_seen_ways(self):
        webs = helper.sound_webs(helper.mixed_webs(5, 60, [None, None, -1, 0, 1, 2, 3, 5]))
        for web in [*webs, *helper.large_sound_webs()]:
            ways = helper.slow_ways(web) if len(web) < 6 else mixed_ways(8, 60)
            for loops in NAMES:
                tables = [table_after(web, loops, passes) for passes in range(4)]
                for way in ways:
                    if helper.is_joined(web, way):
                        length = tables[passes_for(way, loops)][way[0]][way[-1]]
                        self.assertIsNotNone(length)
                        self.assertLessEqual(length, helper.slow_length(web, way))


class IsSeenTest(helper.WatchedCase):
    def found(self, way, loops, passes):
        return self.watched(is_seen, way=way, loops=loops, passes=passes)

    def test_no_passes(self):
        for loops in NAMES:
            for way in [[0], [FAR], [0, 1], [FAR, 3]]:
                self.assertIs(True, self.found(way, loops, 0))
            for way in [[0, 1, 2], [2, 1, 0], list(range(8)), LONG]:
                self.assertIs(False, self.found(way, loops, 0))

    def test_as_many_passes_as_are_needed(self):
        for way in [*orders_of(3), *orders_of(4), *mixed_ways(6, 20), *mixed_ways(8, 20), LONG]:
            for loops in NAMES:
                many = slow_passes(way, loops)
                for passes in [0, 1, 2, 3, 4, 60]:
                    self.assertIs(passes >= many, self.found(way, loops, passes))

    def test_three_passes_see_every_way(self):
        for way in [*some_ways(), *mixed_ways(8, 200, 3)]:
            for loops in NAMES:
                for passes in [3, 4, 60]:
                    self.assertIs(True, is_seen(way, loops, passes))

    def test_two_passes(self):
        self.assertEqual([True] * 4 + [False] * 2, [self.found(LONG, loops, 2) for loops in NAMES])
        self.assertEqual([True] * 2 + [False] * 4, [self.found(LONG, loops, 1) for loops in NAMES])


def slow_unseen(web, loops, passes):
    """The first way of those with the fewest places that is not seen, by all ways of a web."""
    unseen = [way for way in helper.slow_ways(web) if slow_passes(way, loops) > passes]
    return min(unseen, key=lambda way: (len(way), way), default=None)


def near_and_far(web, way):
    """The web with lengths by which only the way itself is shortest between its ends."""
    near = [[length if length in (0, None) else FAR for length in row] for row in web]
    for x, y in helper.edges_on_way(way):
        near[x][y] = 1
    return near


class UnseenWayTest(helper.WatchedCase):
    def found(self, web, loops, passes):
        return self.watched(unseen_way, web=web, loops=loops, passes=passes)

    def test_webs_without_unseen_ways(self):
        for loops in NAMES:
            for passes in [0, 1, 3, 60]:
                for web in [[], [[0]], [[0, 5], [None, 0]], full_web(2, -FAR), bare_web(7)]:
                    self.assertIsNone(self.found(web, loops, passes))
            for web in [full_web(3), full_web(3, -FAR), line_web(7), turned_web(line_web(7, FAR))]:
                self.assertIsNone(self.found(web, loops, 1))

    def test_no_passes(self):
        for loops in NAMES:
            self.assertEqual([0, 1, 2], self.found(full_web(7), loops, 0))
            self.assertEqual([4, 5, 6], self.found(web_of_edges(7, [(5, 6, 1), (4, 5, 1)]), loops, 0))
            self.assertEqual([1, 0, 2], self.found(web_of_edges(3, [(1, 0, FAR), (0, 2, -FAR)]), loops, 0))

    def test_the_least_of_the_shortest(self):
        first = [None, None, [0, 2, 1, 3], [0, 1, 3, 2], [0, 1, 3, 2], [0, 1, 3, 2]]
        for size in range(4, 8):
            self.assertEqual(first, [self.found(full_web(size), loops, 1) for loops in NAMES])
        # The way of four places is greater than that of five, which has the lesser numbers in front.
        web = web_of_edges(7, [(0, 3, 1), (3, 1, 1), (3, 5, 1), (5, 2, 1), (2, 4, 1)])
        self.assertEqual([3, 5, 2, 4], self.found(web, "ikj", 1))

    def test_two_and_more_passes(self):
        for loops in NAMES:
            for passes in [2, 3, 4, 60]:
                self.assertIsNone(self.found(full_web(5), loops, passes))
            self.assertIsNone(unseen_way(full_web(6), loops, 2))
            self.assertIsNone(unseen_way(full_web(7), loops, 3))
            self.assertEqual(LONG if loops in ["ijk", "jik"] else None, unseen_way(full_web(7), loops, 2))
        self.assertEqual(LONG, self.found(full_web(7), "jik", 2))
        self.assertIsNone(unseen_way(full_web(7), "ijk", 60))

    def test_webs_of_one_way(self):
        for way in [*orders_of(4), *mixed_ways(7, 30), LONG]:
            for loops in NAMES:
                for passes in [0, 1, 2, 3]:
                    web = helper.web_of_way(way, -FAR)
                    parts = [way[start:end] for start in range(len(way)) for end in range(start + 1, len(way) + 1)]
                    unseen = [part for part in parts if slow_passes(part, loops) > passes]
                    expected = min(unseen, key=lambda part: (len(part), part), default=None)
                    self.assertEqual(expected, self.found(web, loops, passes))

    def test_webs_need_not_be_sound(self):
        for web in helper.LOW_WEBS:
            for loops in NAMES:
                self.assertEqual(slow_unseen(web, loops, 0), self.found(web, loops, 0))
                self.assertEqual(slow_unseen(web, loops, 1), self.found(web, loops, 1))
        self.assertEqual([0, 2, 1, 3], self.found(full_web(4, -1), "ikj", 1))

    def test_lengths_do_not_matter(self):
        for web in helper.mixed_webs(5, 30, [None, None, 0, 1, -FAR, FAR]):
            other = [[0 if x == y else None if web[x][y] is None else 7 for y in range(5)] for x in range(5)]
            for loops in NAMES:
                for passes in [0, 1, 2]:
                    self.assertEqual(self.found(other, loops, passes), self.found(web, loops, passes))

    def test_all_ways_of_small_webs(self):
        webs = [web for size in range(4) for web in helper.every_web(size, [None, 1])]
        webs += helper.mixed_webs(4, 60, [None, 1])
        webs += helper.mixed_webs(5, 40, [None, None, 1])
        webs += helper.mixed_webs(6, 15, [None, None, None, 1])
        for web in webs:
            for loops in NAMES:
                for passes in [0, 1, 2]:
                    self.assertEqual(slow_unseen(web, loops, passes), self.found(web, loops, passes))

    def test_four_places_in_ikj_and_jki(self):
        for web in helper.mixed_webs(6, 60, [None, None, None, 1]):
            ways = [way for way in helper.slow_ways(web) if len(way) == 4]
            high = [way for way in ways if way[1] > max(way[0], way[2])]
            self.assertEqual(min(high, default=None), self.found(web, "ikj", 1))
            high = [way for way in ways if way[2] > max(way[1], way[3])]
            self.assertEqual(min(high, default=None), self.found(web, "jki", 1))

    def test_so_many_passes_are_enough_whatever_the_lengths_are(self):
        numbers = [None, None, None, 1, 2, 5]
        for size in [4, 5, 6, 7]:
            for web in helper.mixed_webs(size, 20, numbers[:size]):
                for loops in NAMES:
                    for passes in [0, 1, 2]:
                        self.assert_enough(web, loops, passes)

    def assert_enough(self, web, loops, passes):
        way = unseen_way(web, loops, passes)
        if way is None:
            self.assertLessEqual(passes_needed(web, loops), passes)
            turned = [[length if length in (0, None) else 9 - length for length in row] for row in web]
            self.assertLessEqual(passes_needed(turned, loops), passes)
        else:
            near = near_and_far(web, way)
            self.assertGreater(passes_needed(near, loops), passes)
            self.assertNotEqual(len(way) - 1, table_after(near, loops, passes)[way[0]][way[-1]])

    def test_rings(self):
        for size in range(4, 8):
            web = ring_web(size, [1] * size)
            for loops in WRONG_ORDERS:
                self.assertEqual(slow_unseen(web, loops, 1), self.found(web, loops, 1))


class CountSeenTest(helper.WatchedCase):
    def found(self, size, loops, passes):
        many = self.watched(count_seen, size=size, loops=loops, passes=passes)
        self.assertIs(int, many.__class__)
        return many

    def test_no_passes(self):
        for loops in NAMES:
            self.assertEqual([1, 2, 0, 0, 0], [self.found(size, loops, 0) for size in range(1, 6)])
        self.assertEqual([0, 0], [count_seen(size, "jki", 0) for size in [6, 7]])

    def test_one_pass(self):
        for size in range(1, 8):
            every = math.factorial(size)
            one = {"kij": every, "kji": every, "jki": ONE_PASS["ikj"][size - 1], "jik": ONE_PASS["ijk"][size - 1]}
            for loops in NAMES:
                expected = one[loops] if loops in one else ONE_PASS[loops][size - 1]
                self.assertEqual(expected, count_seen(size, loops, 1))

    def test_two_passes(self):
        for size in range(1, 7):
            for loops in NAMES:
                self.assertEqual(math.factorial(size), self.found(size, loops, 2))
        self.assertEqual([5040] * 4 + [4848] * 2, [count_seen(7, loops, 2) for loops in NAMES])

    def test_three_and_more_passes(self):
        for loops in NAMES:
            for passes in [3, 4, 60]:
                self.assertEqual(math.factorial(5), self.found(5, loops, passes))
            self.assertEqual(5040, count_seen(7, loops, 3))
        self.assertEqual(5040, count_seen(7, "jik", 60))

    def test_all_orders_of_up_to_six_numbers(self):
        for size in range(1, 7):
            for loops in NAMES:
                needed = [slow_passes(way, loops) for way in orders_of(size)]
                for passes in [0, 1, 2]:
                    expected = len([many for many in needed if many <= passes])
                    self.assertEqual(expected, count_seen(size, loops, passes))

    def test_rules_for_seven_numbers(self):
        for loops in ["ikj", "ijk"]:
            seen = [way for way in orders_of(7) if RULES[loops](way)]
            self.assertEqual(ONE_PASS[loops][6], len(seen))

    def test_the_fewest_places_of_unseen_ways(self):
        for loops in WRONG_ORDERS:
            unseen = [size for size in range(1, 8) if count_seen(size, loops, 1) < math.factorial(size)]
            self.assertEqual([4, 5, 6, 7], unseen)
        for loops in ["ijk", "jik"]:
            self.assertEqual([720, 4848], [count_seen(size, loops, 2) for size in [6, 7]])
