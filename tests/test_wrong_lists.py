"""Wrong inputs of looporder.rounds, orders, moves and passes: which error, with which field, in which order."""

from looporder.errors import (
    InvalidEdges, InvalidNumber, InvalidOrder, InvalidWalk, LowRing, NotSingle, UnknownLoops, UnknownPlace,
)
from looporder.moves import are_turned_rows, fewest_moved, turned_rows
from looporder.orders import (
    count_lists, count_lists_for, halved_list, list_for, list_for_all, list_whatever, ring_of_edges,
)
from looporder.passes import LOOPS, passes_needed, table_after
from looporder.rounds import fewest_runs, pieces, rounds_for_all, rounds_needed, runs, values_after, walk_within
from tests import helper
from tests.helper import FAR, LOW_WEBS, NO_WHOLE_NUMBERS, ODD_THINGS, NoPlace, bare_web, full_web, line_web

LINE = [(0, 1), (1, 2), (2, 3)]
LOW = [[0, 2], [-3, 0]]

# For each function with a web: the other arguments that are right for line_web(4), by their names.
ARGUMENTS = {
    values_after: {"edges": LINE, "source": 0, "rounds": 1},
    runs: {"edges": LINE, "walk": [0, 1]},
    pieces: {"edges": LINE, "walk": [0, 1]},
    walk_within: {"edges": LINE, "source": 0, "place": 1, "rounds": 1},
    fewest_runs: {"edges": LINE, "source": 0},
    rounds_needed: {"edges": LINE, "source": 0},
    rounds_for_all: {"edges": LINE},
    halved_list: {"order": [0, 1, 2, 3]},
    list_for: {"source": 0},
    count_lists_for: {"source": 0},
    list_for_all: {},
    ring_of_edges: {},
    list_whatever: {},
    fewest_moved: {"edges": LINE, "source": 0},
    turned_rows: {"edges": LINE, "source": 0},
    are_turned_rows: {"edges": LINE, "source": 0, "thing": []},
    table_after: {"loops": "kij", "passes": 1},
    passes_needed: {"loops": "kij"},
}
SOUND = [fewest_runs, rounds_needed, rounds_for_all, list_for, table_after, passes_needed]
SINGLE = [count_lists_for, list_for_all, ring_of_edges, fewest_moved, turned_rows, are_turned_rows]
PLAIN = [fewest_moved, turned_rows, are_turned_rows]

# For each parameter: a thing that is wrong for every web, the error, and the field.
WRONG = {
    "edges": (None, InvalidEdges, None),
    "source": (None, UnknownPlace, None),
    "place": (None, UnknownPlace, None),
    "rounds": (None, InvalidNumber, None),
    "walk": (None, InvalidWalk, None),
    "order": (None, InvalidOrder, None),
    "loops": (None, UnknownLoops, None),
    "passes": (None, InvalidNumber, None),
}


def functions_with(name):
    """All functions with this parameter, with their right arguments."""
    return [(function, right) for function, right in ARGUMENTS.items() if name in right]


class ListsCase(helper.WatchedCase):
    def assert_wrong(self, error, field, name, thing, web=None, functions=None):
        """Fail unless an error is raised for a thing as the argument of this name, where all others are right."""
        for function, right in functions_with(name):
            if functions is None or function in functions:
                values = [*{**right, name: thing}.values()]
                self.assert_raises(error, field, function, web or line_web(4), *values)


class OrderOfErrorsTest(ListsCase):
    def test_right_arguments(self):
        for function, right in ARGUMENTS.items():
            self.watched(function, web=line_web(4), **right)

    def test_wrong_webs_come_first(self):
        for function, right in ARGUMENTS.items():
            self.assert_wrong_webs(function, *right.values())
            self.assert_wrong_webs(function, *[None for _ in right])

    def test_low_rings_come_right_after_the_web(self):
        for function in [*SOUND, *SINGLE]:
            right = ARGUMENTS[function]
            self.assert_low_webs(function, *right.values())
            self.assert_low_webs(function, *[None for _ in right])
            self.assert_low_webs(function, *[NoPlace() for _ in right])

    def test_low_rings_out_of_reach(self):
        web = [[0, 1, None, None], [None, 0, None, None], [None, None, 0, -1], [None, None, -1, 0]]
        right = {"edges": [(0, 1), (2, 3), (3, 2)], "source": 0, "thing": [], "loops": "ikj", "passes": 0}
        for function in [*SOUND, *SINGLE]:
            with self.assertRaises(LowRing) as caught:
                function(web, *[right[name] for name in ARGUMENTS[function]])
            self.assertEqual([2, 3], sorted(caught.exception.ring))

    def test_not_single_comes_right_after_that(self):
        for function in SINGLE:
            right = ARGUMENTS[function]
            self.assert_twofold_webs(function, *right.values())
            self.assert_twofold_webs(function, *[None for _ in right])
            self.assert_twofold_webs(function, *[NoPlace() for _ in right])

    def test_not_single_out_of_reach(self):
        web = [[0, 1, None, None], [None, 0, None, None], [None, None, 0, 1], [None, None, -1, 0]]
        right = {"edges": [(0, 1), (2, 3), (3, 2)], "source": 0, "thing": []}
        for function in SINGLE:
            with self.assertRaises(NotSingle):
                function(web, *[right[name] for name in ARGUMENTS[function]])

    def test_functions_that_need_no_sound_web(self):
        for function in [values_after, runs, pieces, walk_within, halved_list, list_whatever]:
            for web in LOW_WEBS:
                edges = helper.all_edges(web)
                right = {"edges": edges, "source": 0, "place": 1, "rounds": 3, "walk": list(edges[0])}
                right["order"] = list(range(len(web)))
                self.watched(function, web=web, **{name: right[name] for name in ARGUMENTS[function]})

    def test_functions_that_need_no_single_web(self):
        for function in [*SOUND, values_after, runs, pieces, walk_within, halved_list, list_whatever]:
            for web in helper.TWOFOLD_WEBS:
                edges = helper.all_edges(web)
                right = {"edges": edges, "source": 0, "place": 1, "rounds": 3, "walk": list(edges[0])}
                right.update({"order": list(range(len(web))), "loops": "ijk", "passes": 2})
                self.watched(function, web=web, **{name: right[name] for name in ARGUMENTS[function]})

    def test_the_first_wrong_argument_is_told(self):
        for function, right in ARGUMENTS.items():
            names = [name for name in right if name in WRONG]
            for index, name in enumerate(names):
                wrong = {later: WRONG[later][0] for later in names[index:]}
                _, error, field = WRONG[name]
                self.assert_raises(error, field, function, line_web(4), *{**right, **wrong}.values())

    def test_errors_in_webs_that_are_not_sound(self):
        self.assert_raises(InvalidEdges, 1, values_after, LOW, [(0, 1), (1, 1)], 0, 1)
        self.assert_raises(UnknownPlace, 2, values_after, LOW, [(0, 1)], 2, 1)
        self.assert_raises(InvalidNumber, 61, values_after, LOW, [(0, 1)], 0, 61)
        self.assert_raises(InvalidWalk, 1, runs, LOW, [(0, 1)], [0, 0])
        self.assert_raises(InvalidWalk, None, pieces, LOW, [(0, 1)], [])
        self.assert_raises(UnknownPlace, -1, walk_within, LOW, [(0, 1)], 0, -1, 1)
        self.assert_raises(InvalidOrder, 1, halved_list, LOW, [1, 1])

    def test_arguments_stay_as_they_are(self):
        edges = [(0, 1), (1, 2), (1, 2), None]
        for function in PLAIN:
            with self.assertRaises(InvalidEdges):
                function(line_web(4), edges, 0, *([[]] if function is are_turned_rows else []))
        self.assertEqual([(0, 1), (1, 2), (1, 2), None], edges)


class EdgesTest(ListsCase):
    def test_no_lists(self):
        for edges in [*ODD_THINGS, 0, tuple(LINE), ((0, 1),), {(0, 1): 1}, {(0, 1)}, "0>1"]:
            self.assert_wrong(InvalidEdges, None, "edges", edges)

    def test_wrong_things(self):
        wrong = [(0, 1, 1), (0,), [0, 1], (0, 0), (1, 1), (1, 0), (0, 2), (0, 4), (4, 0), (-1, 0), (0, -1), (-4, 1)]
        wrong += [(thing, 1) for thing in [*NO_WHOLE_NUMBERS, FAR]]
        wrong += [(0, thing) for thing in [*NO_WHOLE_NUMBERS, FAR]]
        wrong += [(True, 2), (1, 2.0), ((0, 1),), ((0, 1), (1, 2))]
        for thing in [*wrong, *NO_WHOLE_NUMBERS, 0, 1, "01", "0>1", {0: 1, 1: 2}]:
            self.assert_wrong(InvalidEdges, 0, "edges", [thing])
            self.assert_wrong(InvalidEdges, 2, "edges", [(0, 1), (2, 3), thing, None, (1, 2)])

    def test_no_edges_in_webs_without_edges(self):
        for web in [bare_web(8), [[0]]]:
            self.assert_wrong(InvalidEdges, 0, "edges", [(0, 0)], web=web)
            self.assert_wrong(InvalidEdges, 0, "edges", [(0, 1)], web=web)
        self.assert_raises(InvalidEdges, 0, rounds_for_all, [], [(0, 1)])

    def test_edges_of_length_0(self):
        self.assertEqual(1, rounds_for_all(full_web(3, 0), helper.all_edges(full_web(3))))
        self.assertEqual([0, 0], values_after([[0, 0], [None, 0]], [(0, 1)], 0, 1))

    def test_edges_may_stand_again_where_lists_need_not_be_plain(self):
        self.assertEqual(1, rounds_for_all(line_web(4), LINE * 40))
        self.assertEqual([0, 1, None, None], values_after(line_web(4), [(0, 1)] * 120, 0, 60))

    def test_edges_may_be_missing_where_lists_need_not_be_plain(self):
        self.assertEqual([0, 1, None, None], fewest_runs(line_web(4), [(0, 1)], 0))


class PlainListsTest(ListsCase):
    def assert_not_plain(self, index, edges, web=None):
        self.assert_wrong(InvalidEdges, index, "edges", edges, web=web, functions=PLAIN)

    def test_edges_that_stood_before(self):
        self.assert_not_plain(1, [(0, 1), (0, 1)])
        self.assert_not_plain(1, [(0, 1), (0, 1), (0, 1)])
        self.assert_not_plain(2, [(0, 1), (1, 2), (0, 1), (1, 2)])
        self.assert_not_plain(3, [*LINE, (0, 1)])
        self.assert_not_plain(3, [*LINE, *LINE])
        self.assert_not_plain(3, [(0, 1), (1, 2), (2, 3), (2, 3)])

    def test_missing_edges(self):
        self.assert_not_plain(0, [])
        self.assert_not_plain(1, [(0, 1)])
        self.assert_not_plain(2, [(2, 3), (0, 1)])
        web = full_web(8)
        edges = helper.all_edges(web)
        for index in range(56):
            self.assert_not_plain(55, edges[:index] + edges[index + 1:], web=web)

    def test_of_several_errors_the_first_one_described_is_raised(self):
        # A thing that is no edge comes before one that stood before, and this before a missing one.
        self.assert_not_plain(2, [(0, 1), (0, 1), (0, 2)])
        self.assert_not_plain(3, [(0, 1), (0, 1), (1, 2), None])
        self.assert_not_plain(1, [(2, 3), (2, 3)])
        self.assert_not_plain(1, [(2, 3), (2, 3), (0, 1)])

    def test_edges_come_before_the_source(self):
        for edges, index in [([], 0), (LINE + LINE, 3), ([(0, 2)], 0)]:
            self.assert_raises(InvalidEdges, index, fewest_moved, line_web(4), edges, 9)
            self.assert_raises(InvalidEdges, index, turned_rows, line_web(4), edges, 9)
            self.assert_raises(InvalidEdges, index, are_turned_rows, line_web(4), edges, 9, None)

    def test_the_source_comes_before_the_thing(self):
        self.assert_raises(UnknownPlace, 9, are_turned_rows, line_web(4), LINE, 9, None)

    def test_not_single_comes_before_edges(self):
        for function in PLAIN:
            others = [[]] if function is are_turned_rows else []
            self.assert_twofold_webs(function, [(0, 1), (0, 1)], 0, *others)


class PlacesTest(ListsCase):
    def test_no_places(self):
        for thing in [-1, 4, 8, FAR, -FAR, *NO_WHOLE_NUMBERS]:
            self.assert_wrong(UnknownPlace, thing, "source", thing)
            self.assert_wrong(UnknownPlace, thing, "place", thing)

    def test_the_web_without_places_has_none(self):
        for function, right in functions_with("source"):
            right = {**right, "source": 0}
            if "edges" in right:
                right["edges"] = []
            self.assert_raises(UnknownPlace, 0, function, [], *right.values())

    def test_the_source_comes_before_the_place(self):
        self.assert_raises(UnknownPlace, 5, walk_within, line_web(4), LINE, 5, 6, 99)
        self.assert_raises(UnknownPlace, 6, walk_within, line_web(4), LINE, 3, 6, 99)
        self.assert_raises(InvalidNumber, 99, walk_within, line_web(4), LINE, 3, 0, 99)


class NumbersTest(ListsCase):
    def test_no_numbers_from_0_to_60(self):
        for thing in [-1, 61, FAR, -FAR, 60.0, *NO_WHOLE_NUMBERS]:
            self.assert_wrong(InvalidNumber, thing, "rounds", thing)
            self.assert_wrong(InvalidNumber, thing, "passes", thing)
            self.assert_raises(InvalidNumber, thing, count_lists, thing, 1)
            self.assert_raises(InvalidNumber, thing, count_lists, 1, thing)
            self.assert_raises(InvalidNumber, thing, count_lists, 0, thing)

    def test_many_comes_before_number(self):
        self.assert_raises(InvalidNumber, 61, count_lists, 61, -1)
        self.assert_raises(InvalidNumber, -1, count_lists, -1, 61)
        self.assert_raises(InvalidNumber, None, count_lists, None, NoPlace())

    def test_the_greatest_numbers(self):
        self.assertEqual([0, 1, 2, 3], values_after(line_web(4), LINE, 0, 60))
        self.assertEqual([0, 1, 2, 3], walk_within(line_web(4), LINE, 0, 3, 60))
        self.assertEqual([0, 1, 2, 3], table_after(line_web(4), "ijk", 60)[0])
        self.assertEqual(1, count_lists(60, 60))


class WalksTest(ListsCase):
    def test_no_lists_of_one_or_more_things(self):
        for walk in [*ODD_THINGS, 0, (0, 1), []]:
            self.assert_wrong(InvalidWalk, None, "walk", walk)

    def test_wrong_things(self):
        for thing in [-1, 4, FAR, *NO_WHOLE_NUMBERS]:
            self.assert_wrong(InvalidWalk, 0, "walk", [thing])
            self.assert_wrong(InvalidWalk, 2, "walk", [0, 1, thing, 9])

    def test_missing_edges(self):
        self.assert_wrong(InvalidWalk, 1, "walk", [1, 0])
        self.assert_wrong(InvalidWalk, 1, "walk", [2, 2])
        self.assert_wrong(InvalidWalk, 3, "walk", [0, 1, 2, 1, 9])

    def test_walks_need_edges_of_the_web_not_of_the_list(self):
        for function in [runs, pieces]:
            self.assertIsNone(function(line_web(4), [], [0, 1]))
            self.assert_raises(InvalidWalk, 1, function, line_web(4), [], [0, 2])


class OrdersTest(ListsCase):
    def test_no_lists_of_as_many_things(self):
        for order in [*ODD_THINGS, 0, (0, 1, 2, 3), [], [0, 1, 2], [0, 1, 2, 3, 4], [9, 9], [None] * 5]:
            self.assert_wrong(InvalidOrder, None, "order", order)
        self.assert_raises(InvalidOrder, None, halved_list, [], [0])

    def test_wrong_things(self):
        for thing in [-1, 4, FAR, *NO_WHOLE_NUMBERS]:
            self.assert_wrong(InvalidOrder, 0, "order", [thing, 1, 2, 3])
            self.assert_wrong(InvalidOrder, 2, "order", [3, 1, thing, 1])

    def test_places_that_stood_before(self):
        self.assert_wrong(InvalidOrder, 1, "order", [2, 2, 9, 9])
        self.assert_wrong(InvalidOrder, 3, "order", [2, 1, 0, 2])


class LoopsTest(ListsCase):
    def test_other_names(self):
        wrong = ["", "k", "ij", "kijk", "KIJ", "Kij", "kij ", " kij", "iij", "kkk", "jk", "j", "abc", "kij\n", "kijkji"]
        for name in wrong:
            self.assert_wrong(UnknownLoops, name, "loops", name)

    def test_other_kinds(self):
        things = [thing for thing in ODD_THINGS if not isinstance(thing, str)]
        for thing in [*things, 0, 1, [], ["kij"], ("k", "i", "j"), ["k", "i", "j"], b"kij", ("kij",), LOOPS]:
            self.assert_wrong(UnknownLoops, thing, "loops", thing)

    def test_loops_come_before_passes(self):
        self.assert_raises(UnknownLoops, "jjj", table_after, line_web(4), "jjj", 61)
        self.assert_raises(InvalidNumber, 61, table_after, line_web(4), "jik", 61)

    def test_loops_matter_without_places_and_passes_too(self):
        for web in [[], [[0]]]:
            self.assert_raises(UnknownLoops, "jjj", table_after, web, "jjj", 0)
            self.assert_raises(UnknownLoops, "jjj", passes_needed, web, "jjj")
