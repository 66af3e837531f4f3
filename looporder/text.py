"""Text: webs and lists of edges, written and read."""

from looporder.checks import check_edges, check_web
from looporder.errors import InvalidText
from looporder.webs import edges_of

MOST_LINES_OF_WEB = 8


def format_web(web):
    """Return the text of a web, which need not be sound."""
    check_web(web)
    return "\n".join([" ".join([_format_length(length) for length in row]) for row in web])


def _format_length(length):
    return "-" if length is None else str(length)


def parse_web(text):
    """Return the web that a text writes; it need not be sound."""
    if not isinstance(text, str):
        raise InvalidText(None)
    lines = _lines_of(text)
    if len(lines) > MOST_LINES_OF_WEB:
        raise InvalidText(None)
    web = []
    for place, line in enumerate(lines):
        words = line.split(" ")
        if len(words) != len(lines) or not all([_is_length(word) for word in words]) or words[place] != "0":
            raise InvalidText(place)
        web.append([None if word == "-" else int(word) for word in words])
    return web


def _lines_of(text):
    """Return the list of the lines of a text; the empty text has none."""
    return text.split("\n") if text else []


def _is_length(word):
    """Tell whether a word is written as a length or as none."""
    if word == "-" or word == "0":
        return True
    digits = word.removeprefix("-")
    return digits.isascii() and digits.isdigit() and not digits.startswith("0")


def format_edges(web, edges):
    """Return the text of a list of edges of a web, which need not be sound."""
    check_web(web)
    check_edges(web, edges)
    return "\n".join([_format_edge(edge) for edge in edges])


def _format_edge(edge):
    x, y = edge
    return f"{x}>{y}"


def parse_edges(web, text):
    """Return the list of edges of a web that a text writes; the web need not be sound."""
    check_web(web)
    if not isinstance(text, str):
        raise InvalidText(None)
    written = {_format_edge(edge): edge for edge in edges_of(web)}
    edges = []
    for index, line in enumerate(_lines_of(text)):
        if line not in written:
            raise InvalidText(index)
        edges.append(written[line])
    return edges
