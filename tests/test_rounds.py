"""looporder.rounds: ordinary inputs, edges, and the slow searches; points 2, 3, 7, 8, 9 and 10."""

import itertools

from looporder.rounds import fewest_runs, pieces, rounds_for_all, rounds_needed, runs, values_after, walk_within
from looporder.walks import length_of
from looporder.webs import distances, web_of_edges
from tests import helper
from tests.helper import FAR, bare_web, full_web, line_web, ring_web

WEB = [[0, None, 1, 9], [None, 0, None, 1], [None, 1, 0, None], [None, None, None, 0]]
LATE = [(1, 3), (2, 1), (0, 2), (0, 3)]
LINE = helper.edges_on_way(range(8))
LOW = [[0, 2], [-3, 0]]
TO_AND_FRO = [(0, 1), (1, 0)]


def mixed_lists(web, numbers):
    """Some lists of edges of a web: complete and not, plain and not, and the empty one."""
    edges = helper.all_edges(web)
    yield []
    yield helper.mixed_order(edges, numbers)
    yield helper.mixed_order(edges + edges, numbers)
    yield helper.mixed_choice(edges, len(edges), numbers)
    yield helper.mixed_choice(edges, 3, numbers)


def webs_with_lists(size, many, lengths, seed=1):
    """So many webs, sound and not, each with some lists of its edges."""
    numbers = helper.mixed_numbers(seed + 100)
    for web in helper.mixed_webs(size, many, lengths, seed):
        for edges in mixed_lists(web, numbers):
            yield web, edges


def rising_walks(web, edges):
    """The first place, the last place and the length of each walk that rises in a list, by all parts of the list."""
    found = set()
    for many in range(1, len(edges) + 1):
        for part in itertools.combinations(edges, many):
            if all(edge[1] == other[0] for edge, other in zip(part, part[1:])):
                found.add((part[0][0], part[-1][1], sum(web[x][y] for x, y in part)))
    return found


def ends_within(web, edges, source, most):
    """A list with, for 0 to so many runs, the last place and the length of all walks with at most so many runs."""
    rising = rising_walks(web, edges)
    ends = [{(source, 0)}]
    for _ in range(most):
        longer = {(y, length + more) for place, length in ends[-1] for x, y, more in rising if x == place}
        ends.append(ends[-1] | longer)
    return ends


class ExamplesTest(helper.WatchedCase):
    def test_examples_of_the_document(self):
        found = [values_after(WEB, LATE, 0, rounds) for rounds in [1, 2, 3]]
        self.assertEqual([[0, None, 1, 9], [0, 2, 1, 9], [0, 2, 1, 3]], found)
        found = (rounds_needed(WEB, LATE, 0), rounds_needed(WEB, LATE[::-1], 0), rounds_for_all(WEB, LATE))
        self.assertEqual((3, 1, 3), found)
        found = (runs(WEB, LATE, [0, 2, 1, 3]), pieces(WEB, LATE[::-1], [0, 2, 1, 3]))
        self.assertEqual((3, [[0, 2, 1, 3]]), found)


class ValuesTest(helper.WatchedCase):
    def found(self, web, edges, source, rounds):
        return self.watched(values_after, web=web, edges=edges, source=source, rounds=rounds)

    def test_no_rounds(self):
        self.assertEqual([0], self.found([[0]], [], 0, 0))
        self.assertEqual([None, None, 0, None], self.found(WEB, LATE, 2, 0))
        self.assertEqual([None] * 7 + [0], self.found(full_web(8), helper.all_edges(full_web(8)), 7, 0))

    def test_one_place_and_webs_without_edges(self):
        self.assertEqual([0], self.found([[0]], [], 0, 60))
        self.assertEqual([None, 0] + [None] * 6, self.found(bare_web(8), [], 1, 60))

    def test_the_empty_list(self):
        self.assertEqual([None, 0, None], self.found(full_web(3, -1), [], 1, 60))

    def test_values_are_used_in_the_same_round(self):
        self.assertEqual([FAR * place for place in range(8)], self.found(line_web(8, FAR), LINE, 0, 1))
        self.assertEqual([-FAR * place for place in range(8)], self.found(line_web(8, -FAR), LINE, 0, 1))

    def test_the_worst_list(self):
        for rounds in range(9):
            expected = [3 * place if place <= rounds else None for place in range(8)]
            self.assertEqual(expected, self.found(line_web(8, 3), LINE[::-1], 0, rounds))

    def test_sixty_rounds(self):
        self.assertEqual([-3 * place for place in range(8)], self.found(line_web(8, -3), LINE[::-1], 0, 60))
        edges = helper.all_edges(full_web(8)) * 2
        self.assertEqual([5] * 4 + [0] + [5] * 3, self.found(full_web(8, 5), edges + edges[:8], 4, 60))

    def test_edges_that_are_not_in_the_list_do_not_count(self):
        self.assertEqual([0, None, None, 9], self.found(WEB, [(0, 3), (2, 1)], 0, 60))

    def test_edges_that_stand_several_times(self):
        self.assertEqual([0, 2, 1, 3], self.found(WEB, [(1, 3), (0, 2), (2, 1), (0, 2), (1, 3)], 0, 1))
        self.assertEqual([0, 2, 1, 3], self.found(WEB, LATE * 3, 0, 1))
        self.assertEqual([0, 2, 1, None], self.found(WEB, [(0, 2), (0, 2), (2, 1)], 0, 1))

    def test_edges_and_rings_of_length_0(self):
        self.assertEqual([0, 0, 0], self.found(full_web(3, 0), [(0, 1), (1, 2), (2, 0), (1, 0)], 2, 60))
        self.assertEqual([-3, 0], self.found([[0, 3], [-3, 0]], TO_AND_FRO, 1, 60))

    def test_rings_below_0(self):
        for rounds in range(1, 61):
            self.assertEqual([-rounds, 3 - rounds], self.found(LOW, TO_AND_FRO, 0, rounds))
        self.assertEqual([-59 * FAR, -60 * FAR], self.found([[0, -FAR], [0, 0]], TO_AND_FRO[::-1], 0, 60))

    def test_rings_below_0_out_of_reach(self):
        web = [[0, 2, None], [-3, 0, None], [None, 1, 0]]
        self.assertEqual([-3, 0, None], self.found(web, [(1, 0)], 1, 60))
        self.assertEqual([-2, 1, 0], self.found(web, [(2, 1), (1, 0)], 2, 60))
        self.assertEqual([None, None, 0], self.found(web, TO_AND_FRO, 2, 60))

    def test_each_round_changes_a_value_if_a_ring_below_0_is_reached(self):
        for web in [LOW, *helper.LOW_WEBS, full_web(8, -1)]:
            edges = helper.all_edges(web)
            for order in [edges, edges[::-1]]:
                values = [values_after(web, order, 1, rounds) for rounds in range(61)]
                for rounds in range(60):
                    self.assertNotEqual(values[rounds], values[rounds + 1])

    def test_least_lengths_of_walks_with_so_many_runs(self):
        cases = list(webs_with_lists(3, 30, [None, -2, -1, 0, 1, 2, 3])) + list(webs_with_lists(3, 10, [1, 2, FAR]))
        for web, edges in cases:
            for source in range(3):
                for rounds, ends in enumerate(ends_within(web, edges[:8], source, 3)):
                    lengths = [[length for end, length in ends if end == place] for place in range(3)]
                    expected = [min(row, default=None) for row in lengths]
                    self.assertEqual(expected, self.found(web, edges[:8], source, rounds))

    def test_walks_by_their_runs(self):
        for web, edges in webs_with_lists(3, 20, [None, -1, 1, 2, 4]):
            found = [[0]]
            for walk in found:
                if len(walk) <= 6:
                    found += [[*walk, y] for y in range(3) if y != walk[-1] and web[walk[-1]][y] is not None]
            for rounds in [0, 1, 2]:
                few = [walk for walk in found if (helper.slow_runs(edges[:3], walk) or 0) <= rounds]
                few = [walk for walk in few if helper.slow_runs(edges[:3], walk) is not None]
                lengths = [[helper.slow_length(web, walk) for walk in few if walk[-1] == place] for place in range(3)]
                expected = [min(row, default=None) for row in lengths]
                self.assertEqual(expected, self.found(web, edges[:3], 0, rounds))

    def test_rounds_edge_by_edge(self):
        for size, lengths in [(5, [None, None, -1, 0, 2, 5]), (8, [None, None, None, 1, 3, 7, FAR])]:
            for web, edges in webs_with_lists(size, 10, lengths):
                for rounds in [1, 2, 3, 60]:
                    expected = helper.slow_values(web, edges, 1, rounds)
                    self.assertEqual(expected, self.found(web, edges, 1, rounds))

    def test_somewhat_beyond_the_bounds(self):
        web = line_web(11, 10**15)
        self.assertEqual([10**15 * place for place in range(11)], values_after(web, helper.all_edges(web) * 20, 0, 60))


class RunsTest(helper.WatchedCase):
    def check(self, expected, web, edges, walk):
        """Fail unless a walk is cut into these pieces, or cannot be cut if these are None."""
        self.assertEqual(expected, self.watched(pieces, web=web, edges=edges, walk=walk))
        many = None if expected is None else len(expected)
        self.assertEqual(many, self.watched(runs, web=web, edges=edges, walk=walk))

    def test_walks_of_one_place(self):
        for web, edges in [([[0]], []), (WEB, LATE), (full_web(8), []), (LOW, TO_AND_FRO)]:
            self.check([], web, edges, [0])
            self.check([], web, edges, [len(web) - 1])

    def test_walks_of_one_edge(self):
        self.check([[0, 3]], WEB, LATE, [0, 3])
        self.check([[1, 3]], WEB, [(1, 3)], [1, 3])
        self.check(None, WEB, [(0, 2), (2, 1), (0, 3)], [1, 3])
        self.check(None, WEB, [], [0, 2])

    def test_a_missing_edge_anywhere(self):
        self.check(None, WEB, [(2, 1), (1, 3)], [0, 2, 1, 3])
        self.check(None, WEB, [(0, 2), (1, 3)], [0, 2, 1, 3])
        self.check(None, WEB, [(0, 2), (2, 1)], [0, 2, 1, 3])
        self.check([[0, 2, 1]], WEB, [(0, 2), (2, 1)], [0, 2, 1])

    def test_lists_in_order_and_backwards(self):
        self.check([list(range(8))], line_web(8, FAR), LINE, list(range(8)))
        self.check([[x, x + 1] for x in range(7)], line_web(8), LINE[::-1], list(range(8)))
        self.check([[0, 2], [2, 1], [1, 3]], WEB, LATE, [0, 2, 1, 3])
        self.check([[0, 2, 1], [1, 3]], WEB, [(1, 3), (0, 2), (2, 1)], [0, 2, 1, 3])

    def test_pieces_are_as_long_as_possible_from_the_front(self):
        # From 1 on both edges rise, too; but the first piece takes the edge that it can take.
        edges = [(0, 1), (1, 2), (2, 3), (1, 2)]
        self.check([[0, 1, 2, 3]], line_web(4), edges, [0, 1, 2, 3])
        edges = [(1, 2), (2, 3), (0, 1), (1, 2)]
        self.check([[0, 1, 2], [2, 3]], line_web(4), edges, [0, 1, 2, 3])

    def test_edges_that_stand_several_times(self):
        self.check([[0, 1, 0, 1]], full_web(2), [(0, 1), (1, 0), (0, 1)], [0, 1, 0, 1])
        self.check([[0, 1, 0, 1], [1, 0]], full_web(2), [(0, 1), (1, 0), (0, 1)], [0, 1, 0, 1, 0])
        self.check([[0, 1, 2]], line_web(3), [(1, 2), (0, 1), (1, 2)], [0, 1, 2])
        self.check([[0, 1, 2]], line_web(3), [(0, 1), (1, 2), (0, 1)], [0, 1, 2])
        # One thing of the list counts for one edge of the walk only.
        self.check([[0, 1, 0], [0, 1, 0]], full_web(2), TO_AND_FRO, [0, 1, 0, 1, 0])

    def test_walks_on_rings_below_0(self):
        self.check([[0, 1, 0]] * 20 + [[0, 1]], LOW, TO_AND_FRO, [0, 1] * 21)
        self.check([[0, 1]] + [[1, 0, 1]] * 20, LOW, TO_AND_FRO[::-1], [0, 1] * 21)

    def test_long_walks_and_lists(self):
        edges = helper.all_edges(full_web(8)) * 2
        walk = [index % 8 for index in range(120)]
        expected = helper.edges_on_way(walk)
        found = pieces(full_web(8), edges[::-1] + edges[:8], walk)
        self.assertEqual(expected, [edge for part in found for edge in helper.edges_on_way(part)])

    def test_all_ways_to_cut_a_walk(self):
        for web, edges in webs_with_lists(3, 12, [None, -1, 1]):
            edges = edges[:6]
            for many in range(1, 7):
                for walk in itertools.product(range(3), repeat=many):
                    if helper.is_joined(web, walk):
                        self.check_against_cuts(web, edges, list(walk))

    def check_against_cuts(self, web, edges, walk):
        expected = helper.slow_runs(edges, walk)
        self.assertEqual(expected, runs(web, edges, walk))
        found = pieces(web, edges, walk)
        if expected is None:
            self.assertIsNone(found)
            return
        self.assertEqual(expected, len(found))
        steps = [helper.edges_on_way(part) for part in found]
        self.assertEqual(helper.edges_on_way(walk), list(itertools.chain(*steps)))
        for index, part in enumerate(steps):
            self.assertTrue(part and helper.rises(edges, part))
            if index + 1 < len(steps):
                self.assertFalse(helper.rises(edges, [*part, steps[index + 1][0]]))

    def test_together_with_the_list_read_backwards(self):
        numbers = helper.mixed_numbers()
        for web in helper.mixed_webs(5, 20, [None, 1, 2]):
            edges = helper.mixed_order(helper.all_edges(web), numbers)
            for way in helper.slow_ways(web):
                if len(way) > 1:
                    self.assertEqual(len(way), runs(web, edges, way) + runs(web, edges[::-1], way))


class WalkWithinTest(helper.WatchedCase):
    def check(self, web, edges, source, place, rounds):
        """Fail unless the walk is one with the right ends, length and runs; return it."""
        value = values_after(web, edges, source, rounds)[place]
        walk = self.watched(walk_within, web=web, edges=edges, source=source, place=place, rounds=rounds)
        if value is None:
            self.assertIsNone(walk)
            return walk
        self.assertIsInstance(walk, list)
        self.assertEqual((source, place), (walk[0], walk[-1]))
        self.assertTrue(helper.is_joined(web, walk))
        self.assertEqual(value, helper.slow_length(web, walk))
        self.assertEqual(value, length_of(web, walk))
        many = runs(web, edges, walk)
        self.assertIsNotNone(many)
        self.assertLessEqual(many, rounds)
        return walk

    def test_no_rounds(self):
        self.assertEqual([2], self.check(WEB, LATE, 2, 2, 0))
        self.assertIsNone(self.check(WEB, LATE, 0, 2, 0))
        self.assertEqual([0], self.check([[0]], [], 0, 0, 0))

    def test_from_a_place_to_itself(self):
        self.assertEqual([0], self.check([[0]], [], 0, 0, 60))
        self.assertEqual([3], self.check(full_web(8), helper.all_edges(full_web(8)), 3, 3, 60))
        self.assertEqual([0, 1, 0], self.check(LOW, TO_AND_FRO, 0, 0, 1))

    def test_ordinary_walks(self):
        self.assertEqual([0, 3], self.check(WEB, LATE, 0, 3, 1))
        self.assertEqual([0, 3], self.check(WEB, LATE, 0, 3, 2))
        self.assertEqual([0, 2, 1, 3], self.check(WEB, LATE, 0, 3, 3))
        self.assertEqual([0, 2, 1, 3], self.check(WEB, LATE[::-1], 0, 3, 1))
        self.assertIsNone(self.check(WEB, LATE, 3, 0, 60))
        self.assertEqual(list(range(8)), self.check(line_web(8, -FAR), LINE[::-1], 0, 7, 60))

    def test_a_value_that_is_lowered_after_it_was_used(self):
        # 2 gets its value by 1 before 1 gets a lesser one: after one round the walk to 2 does not go on from that to 1.
        web = web_of_edges(4, [(0, 1, 5), (1, 2, 1), (0, 3, 1), (3, 1, 1)])
        edges = [(0, 1), (1, 2), (0, 3), (3, 1)]
        self.assertEqual([0, 1, 2], self.check(web, edges, 0, 2, 1))
        self.assertEqual([0, 3, 1], self.check(web, edges, 0, 1, 1))
        self.assertEqual([0, 3, 1, 2], self.check(web, edges, 0, 2, 2))

    def test_rings_below_0(self):
        self.assertEqual([0, 1] * 60, self.check(LOW, TO_AND_FRO, 0, 1, 60))
        self.assertEqual([0, 1] * 60 + [0], self.check(LOW, TO_AND_FRO, 0, 0, 60))
        walk = self.check(full_web(8, -FAR), helper.all_edges(full_web(8)) * 2, 0, 7, 60)
        self.assertGreater(len(walk), 120)
        ring = ring_web(8, [-1] * 8)
        self.assertEqual(60 * 120 + 1, len(self.check(ring, helper.all_edges(ring) * 15, 0, 0, 60)))

    def test_returned_walks_may_be_passed_in_again(self):
        ring = ring_web(8, [-1] * 8)
        edges = helper.all_edges(ring)
        walk = walk_within(ring, edges * 15, 0, 0, 60)
        self.assertEqual(7201, len(walk))
        self.assertEqual((-7200, 60), (length_of(ring, walk), runs(ring, edges * 15, walk)))
        self.assertEqual((900, 6301), (runs(ring, edges, walk), runs(ring, edges[::-1], walk)))
        self.assertEqual([walk[:121]] * 60, pieces(ring, edges * 15, walk))

    def test_mixed_webs(self):
        cases = list(webs_with_lists(3, 20, [None, -2, -1, 0, 1, 2]))
        cases += webs_with_lists(5, 6, [None, None, -1, 1, 2, 3])
        for web, edges in cases:
            for source, place in itertools.product(range(len(web)), repeat=2):
                for rounds in [1, 2, 5]:
                    self.check(web, edges, source, place, rounds)


class FewestRunsTest(helper.WatchedCase):
    def found(self, web, edges, source):
        return self.watched(fewest_runs, web=web, edges=edges, source=source)

    def test_small_and_bare_webs(self):
        self.assertEqual([0], self.found([[0]], [], 0))
        self.assertEqual([None] * 7 + [0], self.found(bare_web(8), [], 7))
        self.assertEqual([None, 0], self.found(full_web(2), [], 1))

    def test_ordinary_webs(self):
        self.assertEqual([0, 2, 1, 3], self.found(WEB, LATE, 0))
        self.assertEqual([0, 1, 1, 1], self.found(WEB, LATE[::-1], 0))
        self.assertEqual([None, 0, None, 1], self.found(WEB, LATE, 1))
        self.assertEqual([0] + [1] * 7, self.found(full_web(8, FAR), helper.all_edges(full_web(8)), 0))
        self.assertEqual(list(range(8)), self.found(line_web(8, -FAR), LINE[::-1], 0))

    def test_no_shortest_walk_has_runs(self):
        # A walk to 3 is in the list, but not the shortest one.
        self.assertEqual([0, None, 1, None], self.found(WEB, [(0, 2), (0, 3)], 0))
        self.assertEqual([0, 1, 1, None], self.found(WEB, [(0, 2), (2, 1), (0, 3)], 0))
        self.assertEqual([0, 1, 1, 2], self.found(WEB, [(0, 2), (1, 3), (2, 1)], 0))

    def test_the_shortest_walk_with_the_fewest_runs(self):
        # 0 1 2 3 and 0 3 have the same length.
        web = web_of_edges(4, [(0, 1, 1), (1, 2, 1), (2, 3, 1), (0, 3, 3)])
        self.assertEqual([0, 1, 2, 1], self.found(web, [(2, 3), (1, 2), (0, 1), (0, 3)], 0))
        self.assertEqual([0, 1, 2, 3], self.found(web, [(2, 3), (1, 2), (0, 1)], 0))
        self.assertEqual([0, 1, 1, 1], self.found(web, [(0, 1), (1, 2), (2, 3)], 0))

    def test_rings_of_length_0(self):
        self.assertEqual([0, 1, 2], self.found(ring_web(3, [2, -5, 3]), [(1, 2), (0, 1), (2, 0)], 0))
        self.assertEqual([1, 2, 0], self.found(ring_web(3, [2, -5, 3]), [(1, 2), (0, 1), (2, 0)], 2))
        self.assertEqual([1, 1, 1, 0], self.found(full_web(4, 0), helper.all_edges(full_web(4)), 3))

    def test_all_walks_with_so_many_runs(self):
        cases = list(webs_with_lists(3, 60, [None, -1, 0, 1, 2])) + list(webs_with_lists(4, 12, [None, None, 0, 1, 3]))
        for web, edges in cases:
            edges = edges[:9]
            if helper.has_low_ring(web):
                continue
            table = helper.slow_distances(web)
            for source, goals in enumerate(table):
                ends = ends_within(web, edges, source, len(web))
                expected = []
                for place, goal in enumerate(goals):
                    enough = [rounds for rounds, found in enumerate(ends) if (place, goal) in found]
                    expected.append(min(enough, default=None))
                self.assertEqual(expected, self.found(web, edges, source))


class RoundsNeededTest(helper.WatchedCase):
    def found(self, web, edges, source):
        return self.watched(rounds_needed, web=web, edges=edges, source=source)

    def found_for_all(self, web, edges):
        return self.watched(rounds_for_all, web=web, edges=edges)

    def test_small_and_bare_webs(self):
        self.assertEqual(0, self.found_for_all([], []))
        self.assertEqual((0, 0), (self.found([[0]], [], 0), self.found_for_all([[0]], [])))
        self.assertEqual((0, 0), (self.found(bare_web(8), [], 3), self.found_for_all(bare_web(8), [])))

    def test_no_number_is_enough(self):
        self.assertIsNone(self.found(full_web(2), [], 0))
        self.assertIsNone(self.found(WEB, LATE[1:], 0))
        self.assertIsNone(self.found_for_all(full_web(2), []))

    def test_edges_that_are_not_needed(self):
        # (0, 3) is on no shortest way.
        self.assertEqual((3, 3), (self.found(WEB, LATE[:3], 0), self.found_for_all(WEB, LATE[:3])))
        # From 0 a list is enough that is not enough from 1.
        web = web_of_edges(3, [(0, 2, 1), (1, 2, 1)])
        self.assertEqual((1, None, 0), tuple(self.found(web, [(0, 2)], source) for source in range(3)))
        self.assertIsNone(self.found_for_all(web, [(0, 2)]))

    def test_0_exactly_if_no_edge_leads_from_the_source(self):
        self.assertEqual([3, 1, 2, 0], [self.found(WEB, LATE, source) for source in range(4)])
        self.assertEqual(0, self.found(line_web(8), LINE, 7))
        self.assertEqual(1, self.found(line_web(8), LINE[::-1], 6))

    def test_the_most_rounds(self):
        for length in [-FAR, -1, 0, 1, FAR]:
            web = line_web(8, length)
            self.assertEqual((7, 1), (self.found(web, LINE[::-1], 0), self.found(web, LINE, 0)))
            self.assertEqual((7, 1), (self.found_for_all(web, LINE[::-1]), self.found_for_all(web, LINE)))

    def test_all_edges_and_rings_of_length_0(self):
        edges = helper.all_edges(full_web(8))
        for web in [full_web(8), full_web(8, 0), full_web(8, FAR)]:
            self.assertEqual((1, 1), (self.found(web, edges, 5), self.found_for_all(web, edges)))
        ring = ring_web(8, [FAR, -FAR, 0, 0, 5, -5, 1, -1])
        self.assertEqual(7, self.found_for_all(ring, helper.all_edges(ring)[::-1]))
        self.assertEqual(2, self.found_for_all(ring, helper.all_edges(ring)))

    def test_the_greatest_number_over_the_sources(self):
        self.assertEqual(3, self.found_for_all(WEB, LATE))
        self.assertEqual(1, self.found_for_all(WEB, LATE[::-1]))
        # The source with the most rounds is not the first one.
        web = helper.line_web(5)[::-1]
        web = [row[::-1] for row in web]
        self.assertEqual([0, 1, 2, 3, 4], [self.found(web, helper.all_edges(web), source) for source in range(5)])
        self.assertEqual(4, self.found_for_all(web, helper.all_edges(web)))

    def test_edges_that_stand_several_times(self):
        self.assertEqual(1, self.found(line_web(8), LINE[::-1] * 7, 0))
        self.assertEqual(2, self.found(line_web(8), LINE[::-1] * 6, 0))
        self.assertEqual(1, self.found_for_all(line_web(8), LINE * 17))

    def test_rounds_gone_through(self):
        cases = list(webs_with_lists(3, 60, [None, -1, 0, 1, 2])) + list(webs_with_lists(5, 12, [None, 0, 1, 3, 7]))
        for web, edges in cases:
            if helper.has_low_ring(web):
                continue
            table = helper.slow_distances(web)
            expected = []
            for source, goals in enumerate(table):
                enough = [many for many in range(12) if helper.slow_values(web, edges, source, many) == goals]
                expected.append(min(enough, default=None))
                self.assertEqual(expected[-1], self.found(web, edges, source))
                reached = [many for many, goal in zip(fewest_runs(web, edges, source), goals) if goal is not None]
                self.assertEqual(expected[-1], None if None in reached else max(reached))
            self.assertEqual(None if None in expected else max(expected), self.found_for_all(web, edges))

    def test_complete_lists(self):
        numbers = helper.mixed_numbers()
        webs = [*helper.large_sound_webs(), *helper.mixed_webs(8, 10, [None, 1, 2, 3, 5, 8, 13, 21])]
        for web in webs:
            edges = helper.mixed_order(helper.all_edges(web), numbers)
            table = distances(web)
            for source in range(8):
                many = self.found(web, edges, source)
                self.assertLessEqual(many, 7)
                self.assertEqual(many == 0, all(web[source][y] is None for y in range(8) if y != source))
                values = [values_after(web, edges, source, rounds) for rounds in range(9)]
                for rounds in range(8):
                    self.assertEqual(values[rounds] == values[rounds + 1], values[rounds] == table[source])

    def test_a_list_followed_by_itself_read_backwards(self):
        numbers = helper.mixed_numbers()
        for size in range(1, 9):
            for web in [line_web(size, -FAR), *helper.mixed_webs(size, 10, [None, None, 1, 2, 3, 5, 8])]:
                edges = helper.mixed_order(helper.all_edges(web), numbers)
                self.assertLessEqual(self.found_for_all(web, edges + edges[::-1]), size // 2)

    def test_somewhat_beyond_the_bounds(self):
        web = line_web(11)
        self.assertEqual(10, rounds_needed(web, helper.all_edges(web)[::-1], 0))
        self.assertEqual(10, rounds_for_all(web, helper.all_edges(web)[::-1]))
        self.assertEqual(list(range(11)), fewest_runs(web, helper.all_edges(web)[::-1], 0))
