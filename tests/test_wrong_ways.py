"""Wrong inputs of looporder.seen and looporder.numberings: which error, with which field, in which order."""

from looporder.errors import InvalidNumber, InvalidSize, InvalidWay, TooMany, UnknownLoops
from looporder.numberings import falling_numbering, good_numbering
from looporder.passes import LOOPS
from looporder.seen import count_seen, is_seen, passes_for, unseen_way
from tests import helper
from tests.helper import FAR, LOW_WEBS, NAMES, NO_WHOLE_NUMBERS, ODD_THINGS, NoPlace, bare_web, full_web, line_web

WAY = [0, 2, 1, 3]
# For each function: the arguments that are right, by their names.
ARGUMENTS = {
    is_seen: {"way": WAY, "loops": "ikj", "passes": 1},
    passes_for: {"way": WAY, "loops": "ikj"},
    unseen_way: {"web": line_web(4), "loops": "ikj", "passes": 1},
    count_seen: {"size": 4, "loops": "ikj", "passes": 1},
    falling_numbering: {"web": line_web(4)},
    good_numbering: {"web": line_web(4), "loops": "ikj"},
}


class WaysCase(helper.WatchedCase):
    def assert_wrong(self, error, field, name, thing):
        """Fail unless an error is raised for a thing as the argument of this name, where those behind are right or not.

        Those before it are right.
        """
        for function, right in ARGUMENTS.items():
            if name in right:
                self.assert_raises(error, field, function, *{**right, name: thing}.values())
                names = list(right)
                behind = {later: NoPlace() for later in names[names.index(name) + 1:]}
                self.assert_raises(error, field, function, *{**right, name: thing, **behind}.values())


class RightArgumentsTest(WaysCase):
    def test_right_arguments(self):
        for function, right in ARGUMENTS.items():
            self.watched(function, **right)

    def test_webs_need_not_be_sound(self):
        for web in LOW_WEBS:
            self.watched(unseen_way, web=web, loops="ijk", passes=1)
            self.watched(falling_numbering, web=web)
            self.watched(good_numbering, web=web, loops="ijk")


class WebsTest(WaysCase):
    def test_wrong_webs_come_first(self):
        self.assert_wrong_webs(unseen_way, "ikj", 1)
        self.assert_wrong_webs(unseen_way, None, None)
        self.assert_wrong_webs(falling_numbering)
        self.assert_wrong_webs(good_numbering, "ikj")
        self.assert_wrong_webs(good_numbering, None)


class InvalidWayTest(WaysCase):
    def test_no_lists_of_1_to_8_things(self):
        for way in [*ODD_THINGS, 0, (0, 1), [], list(range(9)), [0] * 9, [None] * 9, list(range(120)), range(3)]:
            self.assert_wrong(InvalidWay, None, "way", way)

    def test_wrong_things(self):
        for thing in [-1, -FAR, *NO_WHOLE_NUMBERS]:
            self.assert_wrong(InvalidWay, 0, "way", [thing])
            self.assert_wrong(InvalidWay, 0, "way", [thing, thing])
            self.assert_wrong(InvalidWay, 2, "way", [7, 3, thing, 7, None])
            self.assert_wrong(InvalidWay, 7, "way", [0, 1, 2, 3, 4, 5, 6, thing])

    def test_true_and_false_are_no_numbers(self):
        self.assert_wrong(InvalidWay, 1, "way", [1, True])
        self.assert_wrong(InvalidWay, 0, "way", [False, 1])

    def test_numbers_that_stood_before(self):
        self.assert_wrong(InvalidWay, 1, "way", [0, 0])
        self.assert_wrong(InvalidWay, 3, "way", [0, 1, FAR, FAR, 0, -1])
        self.assert_wrong(InvalidWay, 2, "way", [5, 9, 5, -1])
        self.assert_wrong(InvalidWay, 7, "way", [0, 1, 2, 3, 4, 5, 6, 0])

    def test_the_first_wrong_thing_is_told(self):
        self.assert_wrong(InvalidWay, 1, "way", [0, -1, 0, None])
        self.assert_wrong(InvalidWay, 2, "way", [0, 1, 1, -1])

    def test_the_longest_ways(self):
        self.assertIs(True, is_seen([9, 8, 7, 6, 5, 4, 3, 2], "ikj", 1))
        self.assertEqual(1, passes_for([0, 1, 2, 3, 4, 5, 6, FAR], "ijk"))


class LoopsTest(WaysCase):
    def test_other_names(self):
        wrong = ["", "k", "ij", "kijk", "KIJ", "Kij", "kij ", " kij", "iij", "kkk", "jk", "j", "abc", "kij\n", "kijkji"]
        for name in wrong:
            self.assert_wrong(UnknownLoops, name, "loops", name)

    def test_other_kinds(self):
        things = [thing for thing in ODD_THINGS if not isinstance(thing, str)]
        for thing in [*things, 0, 1, [], ["kij"], ("k", "i", "j"), ["k", "i", "j"], b"kij", ("kij",), LOOPS]:
            self.assert_wrong(UnknownLoops, thing, "loops", thing)

    def test_loops_matter_for_the_smallest_things_too(self):
        for web in [[], [[0]]]:
            self.assert_raises(UnknownLoops, "jjj", unseen_way, web, "jjj", 0)
            self.assert_raises(UnknownLoops, "jjj", good_numbering, web, "jjj")
        self.assert_raises(UnknownLoops, "jjj", is_seen, [0], "jjj", 60)
        self.assert_raises(UnknownLoops, "jjj", passes_for, [0], "jjj")
        self.assert_raises(UnknownLoops, "jjj", count_seen, 1, "jjj", 60)


class NumbersTest(WaysCase):
    def test_no_numbers_from_0_to_60(self):
        for thing in [-1, 61, FAR, -FAR, 60.0, *NO_WHOLE_NUMBERS]:
            self.assert_wrong(InvalidNumber, thing, "passes", thing)
            self.assert_raises(InvalidNumber, thing, is_seen, [0], "kij", thing)
            self.assert_raises(InvalidNumber, thing, unseen_way, [], "kij", thing)
            self.assert_raises(InvalidNumber, thing, count_seen, 1, "kij", thing)

    def test_the_greatest_number(self):
        self.assertIs(True, is_seen(WAY, "ijk", 60))
        self.assertIsNone(unseen_way(full_web(5), "ijk", 60))
        self.assertEqual(24, count_seen(4, "ijk", 60))


class SizesTest(WaysCase):
    def test_no_sizes_from_1_to_7(self):
        for thing in [-1, 0, 8, 9, FAR, -FAR, 7.0, *NO_WHOLE_NUMBERS]:
            self.assert_wrong(InvalidSize, thing, "size", thing)

    def test_all_sizes(self):
        self.assertEqual([1, 2, 6, 24, 120, 720, 5040], [count_seen(size, "kij", 1) for size in range(1, 8)])


class TooManyTest(WaysCase):
    def test_more_places_than_a_function_takes(self):
        for size in [7, 8, 9, 11]:
            for web in [bare_web(size), full_web(size), full_web(size, -1)]:
                for loops in NAMES:
                    self.assert_raises(TooMany, size, good_numbering, web, loops)
                    if size > 7:
                        for passes in [0, 1, 3, 60]:
                            self.assert_raises(TooMany, size, unseen_way, web, loops, passes)

    def test_the_most_places(self):
        self.assertIsNone(unseen_way(bare_web(7), "ikj", 1))
        self.assertEqual([0, 1, 2, 3, 4, 5], good_numbering(bare_web(6), "ikj"))
        self.assertEqual([7, 6, 5, 4, 3, 2, 1, 0], falling_numbering(line_web(8)))

    def test_it_comes_after_all_others(self):
        for size in [8, 9]:
            self.assert_raises(UnknownLoops, "jjj", unseen_way, full_web(size), "jjj", 1)
            self.assert_raises(UnknownLoops, "jjj", unseen_way, full_web(size), "jjj", 61)
            self.assert_raises(InvalidNumber, 61, unseen_way, full_web(size), "ikj", 61)
            self.assert_raises(UnknownLoops, "jjj", good_numbering, full_web(size), "jjj")
            with self.assertRaises(ValueError) as caught:
                good_numbering([*full_web(size)[:-1], [1] * size], "ikj")
            self.assertEqual({"place": size - 1}, vars(caught.exception))
