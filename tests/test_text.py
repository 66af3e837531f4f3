"""looporder.text: ordinary inputs, edges, and a reading of the words of the document; points 2, 3 and 24."""

import re

from looporder.errors import InvalidEdges, InvalidText
from looporder.text import format_edges, format_web, parse_edges, parse_web
from looporder.webs import edges_of
from tests import helper
from tests.helper import FAR, LOW_WEBS, bare_web, full_web, line_web, ring_web

WEB = [[0, None, 1, 9], [None, 0, None, 1], [None, 1, 0, None], [None, None, None, 0]]
TEXT = "0 - 1 9\n- 0 - 1\n- 1 0 -\n- - - 0"
LATE = [(1, 3), (2, 1), (0, 2), (0, 3)]
LATE_TEXT = "1>3\n2>1\n0>2\n0>3"
NO_TEXTS = [thing for thing in helper.ODD_THINGS if not isinstance(thing, str)] + [0, 1, [], ["0"], ("0",), b"0"]
SIGNS = "01923-> \n+.,ab"
NUMBER = "(0|-?[1-9][0-9]*)"


def some_webs():
    """Webs of 0 to 8 places, sound and not."""
    yield from [[], [[0]], WEB, bare_web(8), full_web(8, -FAR), line_web(8, FAR), ring_web(5, [10, -10, 0, 1, -1])]
    yield from LOW_WEBS
    yield from helper.every_web(2, [None, -FAR, -10, -1, 0, 1, 10, FAR])
    for size in [3, 5, 8]:
        yield from helper.mixed_webs(size, 20, [None, None, -FAR, -20, -1, 0, 1, 30, FAR])


def lines_of(text):
    """The lines of a text."""
    return text.split("\n") if text != "" else []


def slow_web(text):
    """The web that a text writes, or the line that InvalidText tells, by the words of the document."""
    lines = lines_of(text)
    if len(lines) > 8:
        return None
    for place, line in enumerate(lines):
        things = [f"({NUMBER}|-)"] * len(lines)
        things[place] = "0"
        if re.fullmatch(" ".join(things), line) is None:
            return place
    return [[None if word == "-" else int(word) for word in line.split()] for line in lines]


def slow_edges(web, text):
    """The list that a text writes, or the line that InvalidText tells, by the words of the document."""
    edges = []
    for index, line in enumerate(lines_of(text)):
        if re.fullmatch(f"{NUMBER}>{NUMBER}", line) is None:
            return index
        x, y = (int(word) for word in line.split(">"))
        if (x, y) not in helper.all_edges(web):
            return index
        edges.append((x, y))
    return edges


def changed_texts(text):
    """The text with each sign left out, exchanged or put in, with each line and each word left out or put in twice."""
    for index in range(len(text) + 1):
        for sign in SIGNS:
            yield text[:index] + sign + text[index:]
            yield text[:index] + sign + text[index + 1:]
        yield text[:index] + text[index + 1:]
        yield text[:index] + text[index + 1:index + 2] + text[index:index + 1] + text[index + 2:]
    yield from changed_parts(text, "\n")
    for place, line in enumerate(lines_of(text)):
        for changed in changed_parts(line, " "):
            lines = lines_of(text)
            lines[place] = changed
            yield "\n".join(lines)


def changed_parts(text, between):
    """The text with each of its parts left out, put in twice, or exchanged with the next one or with another thing."""
    parts = text.split(between)
    for index, part in enumerate(parts):
        for other in [[], [part, part], parts[index:index + 2][::-1], ["0"], ["-"], ["00"], ["-0"], ["+1"], [""]]:
            yield between.join(parts[:index] + other + parts[index + max(1, len(other) - 1):])


class ExamplesTest(helper.WatchedCase):
    def test_examples_of_the_document(self):
        self.assertEqual("0 - 1 9\n- 0 - 1\n- 1 0 -\n- - - 0", format_web(WEB))


class FormatWebTest(helper.WatchedCase):
    def found(self, web):
        text = self.watched(format_web, web=web)
        self.assertIs(str, text.__class__)
        return text

    def test_small_webs(self):
        self.assertEqual("", self.found([]))
        self.assertEqual("0", self.found([[0]]))
        self.assertEqual("0 -\n- 0", self.found(bare_web(2)))
        self.assertEqual("0 0\n-1 0", self.found([[0, 0], [-1, 0]]))

    def test_great_webs(self):
        self.assertEqual("\n".join([" ".join("0" * 8)] * 8), self.found(full_web(8, 0)))
        rows = [" ".join(["-999999999999"] * x + ["0"] + ["-999999999999"] * (7 - x)) for x in range(8)]
        self.assertEqual("\n".join(rows), self.found(full_web(8, -FAR)))
        self.assertLess(len(self.found(full_web(8, -FAR))), 2000)

    def test_webs_need_not_be_sound(self):
        self.assertEqual("0 2\n-3 0", self.found([[0, 2], [-3, 0]]))


class ParseWebTest(helper.WatchedCase):
    def found(self, text):
        return self.watched(parse_web, text=text)

    def test_small_webs(self):
        self.assertEqual([], self.found(""))
        self.assertEqual([[0]], self.found("0"))
        self.assertEqual([[0, None], [None, 0]], self.found("0 -\n- 0"))
        self.assertEqual([[0, -10], [0, 0]], self.found("0 -10\n0 0"))

    def test_ordinary_webs(self):
        self.assertEqual(WEB, self.found(TEXT))

    def test_webs_need_not_be_sound(self):
        self.assertEqual([[0, 2], [-3, 0]], self.found("0 2\n-3 0"))

    def test_kinds_of_values(self):
        for row in self.found("0 1 -\n-5 0 0\n- 999999999999 0"):
            self.assertTrue(all(thing is None or thing.__class__ is int for thing in row))

    def test_texts_read_back(self):
        for web in some_webs():
            self.assertEqual(web, self.found(format_web(web)))
            self.assertEqual(web, slow_web(format_web(web)))

    def test_no_strings(self):
        for thing in NO_TEXTS:
            self.assert_raises(InvalidText, None, parse_web, thing)

    def test_too_many_lines(self):
        text = format_web(bare_web(8))
        for wrong in [text + "\n", "\n" + text, text + "\n" + text, "\n" * 8, "\n" * 1999, "x" + "\n" * 8]:
            self.assert_raises(InvalidText, None, parse_web, wrong)
        self.assert_raises(InvalidText, None, parse_web, format_web(bare_web(9)))
        self.assert_raises(InvalidText, 0, parse_web, "\n" * 7)

    def test_wrong_words(self):
        wrong = ["00", "01", "-0", "-01", "--1", "+1", "1.0", "1e3", "1_0", "x", "None", "", "0x1", "--", "1-", "- ", "1,"]
        for word in [*wrong, " ", "  ", " 1", "1 ", ">", "0>1", "'1'", "-None", "(1)"]:
            self.assert_raises(InvalidText, 0, parse_web, f"0 {word}\n- 0")
            self.assert_raises(InvalidText, 1, parse_web, f"0 1\n{word} 0")
        for word in ["00", "-0", "-", "1", "-1", "", "x", "0 ", " 0", "0 0", "+0", "0.0"]:
            self.assert_raises(InvalidText, 0, parse_web, word or "\n0 0")
            self.assert_raises(InvalidText, 1, parse_web, f"0 1 1\n1 {word} 1\n1 1 1")

    def test_signs_that_other_readings_take_for_blanks_or_digits(self):
        for text in ["0\t1\n1 0", "0\r", "\r0", "0\x0b", "\u0660", "0 \u0661\n1 0", "0 \xb2\n1 0", "0\u20281"]:
            self.assert_raises(InvalidText, 0, parse_web, text)

    def test_wrong_numbers_of_things(self):
        self.assert_raises(InvalidText, 0, parse_web, "0 1")
        self.assert_raises(InvalidText, 0, parse_web, "0\n0")
        self.assert_raises(InvalidText, 0, parse_web, "0\n")
        self.assert_raises(InvalidText, 0, parse_web, "0 1\n1 0\n")
        self.assert_raises(InvalidText, 1, parse_web, "0 1\n1 0 1")
        self.assert_raises(InvalidText, 2, parse_web, "0 1 2\n1 0 2\n")
        self.assert_raises(InvalidText, 1, parse_web, "0 1 2\n\n1 2 0")

    def test_the_first_wrong_line_is_told(self):
        self.assert_raises(InvalidText, 0, parse_web, "1 x\n1\n")
        self.assert_raises(InvalidText, 1, parse_web, "0 1 1\n1 1 1\n1 1 x")
        self.assert_raises(InvalidText, 7, parse_web, format_web(bare_web(8))[:-1] + "-")

    def test_a_number_as_long_as_a_text(self):
        word = "9" * 1990
        self.assertEqual([[0, int(word)], [None, 0]], parse_web(f"0 {word}\n- 0"))
        self.assert_raises(InvalidText, 0, parse_web, f"0 0{word}\n- 0")

    def test_changed_texts(self):
        found = []
        webs = [[], [[0]], [[0, 10], [None, 0]], [[0, -10], [0, 0]], WEB, LOW_WEBS[2], full_web(3, 11)]
        for web in [*webs, *helper.mixed_webs(3, 5, [None, -20, -1, 0, 1, 30]), bare_web(7), full_web(8)]:
            for text in changed_texts(format_web(web)):
                expected = slow_web(text)
                found.append(expected)
                if isinstance(expected, list):
                    self.assertEqual(expected, self.found(text))
                else:
                    self.assert_raises(InvalidText, expected, parse_web, text)
        for expected in [None, 0, 1, 2, 3, 6, 7]:
            self.assertIn(expected, found)
        self.assertGreater(len([web for web in found if isinstance(web, list)]), 100)


class FormatEdgesTest(helper.WatchedCase):
    def found(self, web, edges):
        text = self.watched(format_edges, web=web, edges=edges)
        self.assertIs(str, text.__class__)
        return text

    def test_the_empty_list(self):
        for web in [[], [[0]], WEB, bare_web(8), full_web(8)]:
            self.assertEqual("", self.found(web, []))

    def test_ordinary_lists(self):
        self.assertEqual("0>3", self.found(WEB, [(0, 3)]))
        self.assertEqual(LATE_TEXT, self.found(WEB, LATE))
        self.assertEqual("7>0\n0>7\n7>0", self.found(full_web(8), [(7, 0), (0, 7), (7, 0)]))

    def test_long_lists(self):
        self.assertEqual("\n".join(["6>7"] * 120), self.found(line_web(8), [(6, 7)] * 120))

    def test_webs_need_not_be_sound(self):
        self.assertEqual("0>1\n1>0", self.found([[0, 2], [-3, 0]], [(0, 1), (1, 0)]))

    def test_wrong_arguments(self):
        self.assert_wrong_webs(format_web)
        self.assert_wrong_webs(format_edges, [])
        self.assert_wrong_webs(format_edges, None)
        for edges in [*helper.ODD_THINGS, 0, tuple(LATE), LATE_TEXT]:
            self.assert_raises(InvalidEdges, None, format_edges, WEB, edges)
        for thing in [*helper.NO_WHOLE_NUMBERS, 0, (0, 1), (0, 0), (0, 4), (-1, 3), (0, 2, 1), [0, 2], (True, 3), "0>2"]:
            self.assert_raises(InvalidEdges, 0, format_edges, WEB, [thing])
            self.assert_raises(InvalidEdges, 2, format_edges, WEB, [(0, 2), (0, 2), thing, None])
        self.assert_raises(InvalidEdges, 1, format_edges, [[0, 2], [-3, 0]], [(0, 1), (1, 1)])


class ParseEdgesTest(helper.WatchedCase):
    def found(self, web, text):
        return self.watched(parse_edges, web=web, text=text)

    def test_the_empty_text(self):
        for web in [[], [[0]], WEB, bare_web(8), full_web(8)]:
            self.assertEqual([], self.found(web, ""))

    def test_ordinary_lists(self):
        self.assertEqual([(0, 3)], self.found(WEB, "0>3"))
        self.assertEqual(LATE, self.found(WEB, LATE_TEXT))
        self.assertEqual([(7, 0), (0, 7), (7, 0)], self.found(full_web(8), "7>0\n0>7\n7>0"))

    def test_kinds_of_values(self):
        for edge in self.found(WEB, LATE_TEXT):
            self.assertEqual([tuple, int, int], [edge.__class__, *[place.__class__ for place in edge]])

    def test_long_lists(self):
        self.assertEqual([(6, 7)] * 120, self.found(line_web(8), "\n".join(["6>7"] * 120)))

    def test_webs_need_not_be_sound(self):
        self.assertEqual([(0, 1), (1, 0)], self.found([[0, 2], [-3, 0]], "0>1\n1>0"))

    def test_texts_read_back(self):
        numbers = helper.mixed_numbers()
        for web in some_webs():
            edges = edges_of(web)
            for listed in [edges, edges[::-1], helper.mixed_choice(edges, 9, numbers), (edges + edges)[:120]]:
                self.assertEqual(listed, self.found(web, format_edges(web, listed)))

    def test_wrong_webs(self):
        self.assert_wrong_webs(parse_edges, "")
        self.assert_wrong_webs(parse_edges, None)

    def test_no_strings(self):
        for web in [[], WEB, [[0, 2], [-3, 0]]]:
            for thing in [*NO_TEXTS, LATE]:
                self.assert_raises(InvalidText, None, parse_edges, web, thing)

    def test_wrong_lines(self):
        wrong = ["0", ">", "0>", ">1", "0 > 1", "0> 1", " 0>1", "0>1 ", "0>>1", "0>1>2", "00>1", "0>01", "-0>1", "0>-0"]
        wrong += ["0-1", "0<1", "0,1", "(0, 1)", "0>+1", "0>1.0", "x>y", "0>1;", " ", "-", "0>1\r", "\u0660>1", "0>\xb9"]
        for line in [*wrong, "0>8", "8>0", "-1>0", "0>-1", "0>0", "7>7", f"0>{FAR}", "0>" + "1" * 1900, "10>1", "0>11"]:
            self.assert_raises(InvalidText, 0, parse_edges, full_web(8), line)
            self.assert_raises(InvalidText, 2, parse_edges, full_web(8), f"0>1\n7>6\n{line}\n0>0")

    def test_edges_that_the_web_does_not_have(self):
        for x in range(8):
            for y in range(8):
                if y == x + 1:
                    self.assertEqual([(x, y)], self.found(line_web(8, 0), f"{x}>{y}"))
                else:
                    self.assert_raises(InvalidText, 0, parse_edges, line_web(8, 0), f"{x}>{y}")
        self.assert_raises(InvalidText, 0, parse_edges, [], "0>1")
        self.assert_raises(InvalidText, 0, parse_edges, [[0]], "0>0")

    def test_empty_lines(self):
        self.assert_raises(InvalidText, 0, parse_edges, WEB, "\n")
        self.assert_raises(InvalidText, 0, parse_edges, WEB, "\n0>3")
        self.assert_raises(InvalidText, 1, parse_edges, WEB, "0>3\n")
        self.assert_raises(InvalidText, 1, parse_edges, WEB, "0>3\n\n0>3")
        self.assert_raises(InvalidText, 4, parse_edges, WEB, LATE_TEXT + "\n")

    def test_more_lines_than_a_web_has(self):
        self.assertEqual(LATE * 5, self.found(WEB, "\n".join([LATE_TEXT] * 5)))
        self.assert_raises(InvalidText, 20, parse_edges, WEB, "\n".join([LATE_TEXT] * 5) + "\nx")

    def test_changed_texts(self):
        found = []
        full = full_web(8)
        lists = [(WEB, LATE), (WEB, []), (full, [(0, 1), (1, 0), (0, 1)]), (full, edges_of(full)[:12])]
        lists += [(web, edges_of(web)) for web in [[], [[0]], *LOW_WEBS]]
        for web, edges in lists:
            for text in changed_texts(format_edges(web, edges)):
                expected = slow_edges(web, text)
                found.append(expected)
                if isinstance(expected, list):
                    self.assertEqual(expected, self.found(web, text))
                else:
                    self.assert_raises(InvalidText, expected, parse_edges, web, text)
        for expected in range(12):
            self.assertIn(expected, found)
        self.assertGreater(len([edges for edges in found if isinstance(edges, list)]), 100)
