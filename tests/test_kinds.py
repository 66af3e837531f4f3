"""looporder.kinds: objects against the functions of looporder.rounds and looporder.passes; points 2, 3, 7, 10 and 23."""

import copy

from looporder.errors import InvalidEdges, InvalidWeb, LowRing, UnknownLoops, UnknownPlace
from looporder.kinds import Passes, Rounds
from looporder.passes import passes_needed, table_after
from looporder.rounds import rounds_needed, values_after
from looporder.webs import distances, turned_web, web_of_edges
from tests import helper
from tests.helper import FAR, NAMES, bare_web, full_web, line_web, ring_web, slow_tables, slow_values

WEB = [[0, None, 1, 9], [None, 0, None, 1], [None, 1, 0, None], [None, None, None, 0]]
LATE = [(1, 3), (2, 1), (0, 2), (0, 3)]
LOW = [[0, 2], [-3, 0]]
TO_AND_FRO = [(0, 1), (1, 0)]
BACKWARDS = helper.edges_on_way(range(8))[::-1]
LONG = helper.web_of_way([0, 1, 3, 2, 5, 6, 4])


def state_of(thing):
    """What the properties of an object hold."""
    if isinstance(thing, Rounds):
        return thing.web, thing.edges, thing.source, thing.numbers, thing.many
    return thing.web, thing.loops, thing.table, thing.many


def some_rounds():
    """Sound webs of 1 to 8 places, each with some lists of edges, complete and not."""
    webs = [[[0]], WEB, bare_web(8), full_web(8), line_web(8, -FAR), *helper.large_sound_webs()]
    webs += helper.sound_webs(helper.mixed_webs(3, 60, [None, -1, 0, 1, 2]))
    webs += helper.sound_webs(helper.mixed_webs(5, 40, [None, None, -1, 0, 1, 2, 3, 5]))
    numbers = helper.mixed_numbers()
    for web in webs:
        edges = helper.all_edges(web)
        for listed in [[], helper.mixed_order(edges, numbers), helper.mixed_choice(edges, 5, numbers)]:
            yield web, listed


class KindsCase(helper.WatchedCase):
    def assert_new_lists(self, thing, names):
        """Fail unless each of these properties is a new list with new lists at each reading."""
        before = copy.deepcopy(state_of(thing))
        found = []
        for name in names:
            for _ in range(2):
                value = getattr(thing, name)
                self.assertIsInstance(value, list)
                found += [id(part) for part in helper.lists_in(value)]
                self.kept.append(value)
        self.assertEqual(len(found), len(set(found)))
        for value in self.kept:
            for part in helper.lists_in(value):
                part.append("changed")
                part[0] = "changed"
        self.assertEqual(before, state_of(thing))

    def setUp(self):
        # Lists are kept, so that no later one gets the id of an earlier one.
        self.kept = []

    def assert_read_only(self, thing, names):
        for name in names:
            with self.assertRaises(AttributeError):
                setattr(thing, name, getattr(thing, name))
            self.assertIsInstance(getattr(thing.__class__, name), property)


class RoundsTest(KindsCase):
    def test_at_first(self):
        rounds = Rounds(WEB, LATE, 2)
        self.assertEqual((WEB, LATE, 2, [None, None, 0, None], 0), state_of(rounds))
        self.assertEqual((WEB, LATE, 2, [None, None, 0, None], 0), state_of(Rounds(source=2, edges=LATE, web=WEB)))
        self.assertEqual(([[0]], [], 0, [0], 0), state_of(Rounds([[0]], [], 0)))
        self.assertEqual([None] * 7 + [0], Rounds(full_web(8), [], 7).numbers)

    def test_round_by_round(self):
        rounds = Rounds(WEB, LATE, 0)
        for many, numbers in enumerate([[0, None, 1, 9], [0, 2, 1, 9], [0, 2, 1, 3]], 1):
            self.assertIs(True, rounds.go())
            self.assertEqual((WEB, LATE, 0, numbers, many), state_of(rounds))
        for many in [4, 5]:
            self.assertIs(False, rounds.go())
            self.assertEqual(([0, 2, 1, 3], many), (rounds.numbers, rounds.many))

    def test_rounds_that_change_nothing(self):
        for web, edges, source in [([[0]], [], 0), (bare_web(8), [], 5), (full_web(8), [], 0), (WEB, LATE, 3)]:
            rounds = Rounds(web, edges, source)
            for many in [1, 2, 3]:
                self.assertIs(False, rounds.go())
                self.assertEqual(many, rounds.many)

    def test_values_of_functions(self):
        for web, edges in some_rounds():
            for source in range(len(web)):
                rounds = Rounds(web, edges, source)
                for many in range(9):
                    self.assertEqual((values_after(web, edges, source, many), many), (rounds.numbers, rounds.many))
                    changed = values_after(web, edges, source, many + 1) != rounds.numbers
                    self.assertIs(changed, rounds.go())

    def test_webs_that_are_not_sound(self):
        for web in [LOW, *helper.LOW_WEBS, full_web(5, -1)]:
            edges = helper.all_edges(web)
            for listed in [edges, edges[::-1], edges[1:], []]:
                rounds = Rounds(web, listed, 0)
                for many in range(12):
                    self.assertEqual(slow_values(web, listed, 0, many), rounds.numbers)
                    self.assertIs(slow_values(web, listed, 0, many + 1) != rounds.numbers, rounds.go())

    def test_more_than_sixty_rounds(self):
        rounds = Rounds(LOW, TO_AND_FRO, 0)
        for many in range(1, 201):
            self.assertIs(True, rounds.go())
            self.assertEqual(([-many, 3 - many], many), (rounds.numbers, rounds.many))
        rounds = Rounds(WEB, LATE, 0)
        found = [rounds.go() for _ in range(100)]
        self.assertEqual(([True] * 3 + [False] * 97, 100, [0, 2, 1, 3]), (found, rounds.many, rounds.numbers))
        self.assertEqual((1, 101), (rounds.finish(), rounds.many))

    def test_objects_go_on_by_themselves(self):
        first, second = Rounds(WEB, LATE, 0), Rounds(WEB, LATE, 0)
        first.go()
        self.assertEqual((1, 0), (first.many, second.many))
        self.assertEqual([0, None, None, None], second.numbers)

    def test_objects_copy_what_they_are_given(self):
        web, edges = [list(row) for row in WEB], list(LATE)
        rounds = Rounds(web, edges, 0)
        rounds.go()
        self.assertEqual((WEB, LATE), (web, edges))
        web[0][2] = -5
        web[1].append(1)
        del web[2:]
        edges.clear()
        self.assertEqual((WEB, LATE, 0, [0, None, 1, 9], 1), state_of(rounds))
        rounds.go()
        self.assertEqual((WEB, LATE, 0, [0, 2, 1, 9], 2), state_of(rounds))
        self.assertEqual((2, [0, 2, 1, 3]), (rounds.finish(), rounds.numbers))

    def test_lists_are_new(self):
        rounds = Rounds(WEB, LATE, 0)
        for _ in range(3):
            self.assert_new_lists(rounds, ["web", "edges", "numbers"])
            rounds.go()
        numbers = rounds.numbers
        rounds.go()
        rounds.finish()
        self.assertEqual([0, 2, 1, 3], numbers)

    def test_numbers_are_not_changed_by_going_on(self):
        rounds = Rounds(WEB, LATE, 0)
        before = rounds.numbers
        rounds.go()
        self.assertEqual([0, None, None, None], before)

    def test_properties_are_read_only(self):
        self.assert_read_only(Rounds(WEB, LATE, 0), ["web", "edges", "source", "numbers", "many"])

    def test_kinds_of_values(self):
        rounds = Rounds(WEB, LATE, 1)
        rounds.go()
        self.assertEqual([int, int, int], [thing.__class__ for thing in [rounds.source, rounds.many, rounds.finish()]])


class FinishTest(KindsCase):
    def test_at_once(self):
        rounds = Rounds(WEB, LATE, 0)
        self.assertEqual((4, 4, [0, 2, 1, 3]), (rounds.finish(), rounds.many, rounds.numbers))
        self.assertEqual((1, 5, [0, 2, 1, 3]), (rounds.finish(), rounds.many, rounds.numbers))
        self.assertIs(False, rounds.go())
        self.assertEqual(6, rounds.many)

    def test_after_some_rounds(self):
        for before, expected in [(0, 8), (1, 7), (6, 2), (7, 1), (8, 1), (61, 1)]:
            rounds = Rounds(line_web(8, FAR), BACKWARDS, 0)
            for _ in range(before):
                rounds.go()
            self.assertEqual((expected, before + expected), (rounds.finish(), rounds.many))
            self.assertEqual([place * FAR for place in range(8)], rounds.numbers)

    def test_at_least_one_round(self):
        for web, edges, source in [([[0]], [], 0), (bare_web(8), [], 5), (full_web(8), [], 0), (WEB, LATE, 3)]:
            rounds = Rounds(web, edges, source)
            numbers = rounds.numbers
            self.assertEqual((1, 1, numbers), (rounds.finish(), rounds.many, rounds.numbers))

    def test_rings_of_length_0(self):
        for web in [full_web(8, 0), ring_web(8, [FAR, -FAR, 5, -1, 0, 2, -7, 2]), [[0, 3], [-3, 0]]]:
            rounds = Rounds(web, helper.all_edges(web), 0)
            rounds.finish()
            self.assertEqual(distances(web)[0], rounds.numbers)

    def test_rounds_of_functions(self):
        for web, edges in some_rounds():
            for source in range(len(web)):
                rounds = Rounds(web, edges, source)
                many = rounds.finish()
                self.assertEqual((many, many), (rounds.many, rounds.many))
                self.assertEqual(values_after(web, edges, source, 60), rounds.numbers)
                self.assertEqual(rounds.numbers, values_after(web, edges, source, many - 1))
                if many > 1:
                    self.assertNotEqual(rounds.numbers, values_after(web, edges, source, many - 2))
                needed = rounds_needed(web, edges, source)
                if needed is not None:
                    self.assertEqual((needed + 1, distances(web)[source]), (many, rounds.numbers))

    def test_webs_that_are_not_sound(self):
        apart = [[0, 1, None, None], [None, 0, None, None], [None, None, 0, -1], [None, None, -1, 0]]
        for web in [apart, *helper.LOW_WEBS, full_web(8, -1)]:
            for edges in [helper.all_edges(web), [], helper.all_edges(web)[:1]]:
                rounds = Rounds(web, edges, 0)
                for _ in range(3):
                    before = state_of(rounds)
                    rings = []
                    for _ in range(2):
                        with self.assertRaises(LowRing) as caught:
                            rounds.finish()
                        self.assertIs(LowRing, caught.exception.__class__)
                        self.assert_low_ring(web, caught.exception.ring)
                        rings.append(caught.exception.ring)
                    self.assertIsNot(rings[0], rings[1])
                    rings[0].clear()
                    self.assertEqual(before, state_of(rounds))
                    rounds.go()


class PassesTest(KindsCase):
    def test_at_first(self):
        for loops in NAMES:
            self.assertEqual((WEB, loops, WEB, 0), state_of(Passes(WEB, loops)))
            self.assertEqual((WEB, loops, WEB, 0), state_of(Passes(loops=loops, web=WEB)))
            self.assertEqual(([], loops, [], 0), state_of(Passes([], loops)))
            self.assertEqual(([[0]], loops, [[0]], 0), state_of(Passes([[0]], loops)))

    def test_pass_by_pass(self):
        passes = Passes(WEB, "ikj")
        early = [[0, 2, 1, 9], [None, 0, None, 1], [None, 1, 0, 2], [None, None, None, 0]]
        goal = [[0, 2, 1, 3], [None, 0, None, 1], [None, 1, 0, 2], [None, None, None, 0]]
        self.assertIs(False, passes.is_right())
        self.assertEqual((True, early, 1), (passes.go(), passes.table, passes.many))
        self.assertIs(False, passes.is_right())
        self.assertEqual((True, goal, 2), (passes.go(), passes.table, passes.many))
        self.assertIs(True, passes.is_right())
        self.assertEqual((False, goal, 3), (passes.go(), passes.table, passes.many))
        self.assertIs(True, passes.is_right())
        self.assertEqual((WEB, "ikj"), (passes.web, passes.loops))

    def test_passes_that_change_nothing(self):
        for loops in NAMES:
            for web in [[], [[0]], bare_web(8), full_web(8), full_web(8, 0), full_web(2, FAR)]:
                passes = Passes(web, loops)
                self.assertIs(True, passes.is_right())
                for many in [1, 2]:
                    self.assertIs(False, passes.go())
                    self.assertEqual((web, many), (passes.table, passes.many))
                    self.assertIs(True, passes.is_right())

    def test_three_passes(self):
        for loops in ["ijk", "jik"]:
            passes = Passes(LONG, loops)
            found = []
            for _ in range(4):
                found.append((passes.is_right(), passes.go()))
            self.assertEqual([(False, True), (False, True), (False, True), (True, False)], found)
            self.assertEqual(4, passes.many)

    def test_tables_of_functions(self):
        webs = [WEB, LONG, line_web(8, -FAR), *helper.large_sound_webs()]
        webs += helper.sound_webs(helper.mixed_webs(3, 40, [None, -1, 0, 1, 2]))
        webs += helper.sound_webs(helper.mixed_webs(5, 40, [None, None, -1, 0, 1, 2, 3, 5]))
        webs += helper.mixed_webs(7, 20, [None, None, None, None, 1, 2, 3, 5, 8, 13, FAR])
        for web in webs:
            goal = distances(web)
            for loops in NAMES:
                passes = Passes(web, loops)
                for many, table in enumerate(slow_tables(web, loops, 4)):
                    self.assertEqual((web, loops, table, many), state_of(passes))
                    self.assertEqual(table_after(web, loops, many), passes.table)
                    self.assertIs(table == goal, passes.is_right())
                    self.assertIs(many >= passes_needed(web, loops), passes.is_right())
                    self.assertIs(table_after(web, loops, many + 1) != table, passes.go())

    def test_is_right_changes_nothing(self):
        passes = Passes(LONG, "ijk")
        for _ in range(4):
            before = state_of(passes)
            passes.is_right()
            self.assertEqual(before, state_of(passes))
            passes.go()

    def test_a_table_that_is_right_but_for_one_length(self):
        web = web_of_edges(4, [(0, 2, 1), (2, 1, 1), (1, 3, 1), (0, 3, 4)])
        passes = Passes(web, "ikj")
        passes.go()
        self.assertIs(False, passes.is_right())
        passes = Passes(turned_web(web), "jki")
        passes.go()
        self.assertIs(False, passes.is_right())

    def test_more_than_sixty_passes(self):
        for loops in NAMES:
            passes = Passes(LONG, loops)
            found = [passes.go() for _ in range(100)]
            needed = passes_needed(LONG, loops)
            self.assertEqual([True] * needed + [False] * (100 - needed), found)
            self.assertEqual((100, distances(LONG)), (passes.many, passes.table))
            self.assertIs(True, passes.is_right())

    def test_objects_go_on_by_themselves(self):
        first, second = Passes(WEB, "kij"), Passes(WEB, "kij")
        first.go()
        self.assertEqual((1, 0, WEB), (first.many, second.many, second.table))

    def test_objects_copy_what_they_are_given(self):
        web = [list(row) for row in WEB]
        passes = Passes(web, "kij")
        self.assertEqual(WEB, web)
        web[0][2] = -5
        web[1].append(1)
        del web[2:]
        self.assertEqual((WEB, "kij", WEB, 0), state_of(passes))
        passes.go()
        self.assertEqual((WEB, "kij", distances(WEB), 1), state_of(passes))
        self.assertIs(True, passes.is_right())
        self.assertEqual([[0, None, -5, 9], [None, 0, None, 1, 1]], web)

    def test_lists_are_new(self):
        passes = Passes(WEB, "ikj")
        for _ in range(3):
            self.assert_new_lists(passes, ["web", "table"])
            passes.go()
        self.assertIs(True, passes.is_right())

    def test_tables_are_not_changed_by_going_on(self):
        passes = Passes(WEB, "ikj")
        before = passes.table
        passes.go()
        self.assertEqual(WEB, before)

    def test_properties_are_read_only(self):
        self.assert_read_only(Passes(WEB, "kij"), ["web", "loops", "table", "many"])


class WrongArgumentsTest(KindsCase):
    def test_wrong_webs_come_first(self):
        self.assert_wrong_webs(Rounds, LATE, 0)
        self.assert_wrong_webs(Rounds, None, None)
        self.assert_wrong_webs(Passes, "kij")
        self.assert_wrong_webs(Passes, None)

    def test_low_rings(self):
        self.assert_low_webs(Passes, "kij")
        self.assert_low_webs(Passes, None)
        for web in helper.LOW_WEBS:
            self.assertEqual(web, Rounds(web, [], 0).web)

    def test_wrong_edges(self):
        for edges in [*helper.ODD_THINGS, 0, tuple(LATE), {(0, 1): 1}, "0>1"]:
            self.assert_raises(InvalidEdges, None, Rounds, WEB, edges, 0)
            self.assert_raises(InvalidEdges, None, Rounds, WEB, edges, None)
        wrong = [(0, 1), (0, 0), (3, 0), (0, 4), (-1, 3), (0, 2, 1), [0, 2], (True, 3), (0, 2.0), ()]
        for thing in [*wrong, *helper.NO_WHOLE_NUMBERS, 0]:
            self.assert_raises(InvalidEdges, 0, Rounds, WEB, [thing], 0)
            self.assert_raises(InvalidEdges, 2, Rounds, WEB, [(0, 2), (0, 2), thing, None], 9)
        self.assert_raises(InvalidEdges, 0, Rounds, [], [(0, 1)], 0)
        self.assert_raises(InvalidEdges, 1, Rounds, LOW, [(0, 1), (1, 1)], 0)

    def test_wrong_sources(self):
        for thing in [-1, 4, 8, FAR, -FAR, *helper.NO_WHOLE_NUMBERS]:
            self.assert_raises(UnknownPlace, thing, Rounds, WEB, LATE, thing)
            self.assert_raises(UnknownPlace, thing, Rounds, helper.LOW_WEBS[1], [], thing)
        self.assert_raises(UnknownPlace, 0, Rounds, [], [], 0)

    def test_wrong_loops(self):
        wrong = ["", "k", "KIJ", "kij ", "iij", "kijk", 0, [], ["kij"], ("kij",), b"kij"]
        for thing in [*wrong, *[thing for thing in helper.ODD_THINGS if not isinstance(thing, str)]]:
            self.assert_raises(UnknownLoops, thing, Passes, WEB, thing)
            self.assert_raises(UnknownLoops, thing, Passes, [], thing)

    def test_wrong_arguments_change_no_object(self):
        rounds, passes = Rounds(WEB, LATE, 0), Passes(WEB, "ikj")
        rounds.go()
        passes.go()
        states = state_of(rounds), state_of(passes)
        for arguments in [(None, LATE, 1), (LOW, [(0, 0)], 1), (LOW, [(0, 1)], 2)]:
            with self.assertRaises((InvalidWeb, InvalidEdges, UnknownPlace)):
                rounds.__init__(*arguments)
        for arguments in [(None, "kij"), (LOW, "kij"), ([[0]], "kkk")]:
            with self.assertRaises((InvalidWeb, LowRing, UnknownLoops)):
                passes.__init__(*arguments)
        self.assertEqual(states, (state_of(rounds), state_of(passes)))

    def test_low_rings_come_before_loops(self):
        with self.assertRaises(LowRing):
            Passes(LOW, "kkk")
