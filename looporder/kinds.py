"""Objects that go on round by round, or pass by pass."""

from looporder.checks import check_edges, check_place, check_web
from looporder.passes import check_loops, go_pass, steps_of
from looporder.rounds import go_round
from looporder.webs import check_sound, distances, values_from


class Rounds:
    """A web, a list of edges, a source and its values after the rounds so far; the web need not be sound."""

    def __init__(self, web, edges, source):
        check_web(web)
        check_edges(web, edges)
        check_place(web, source)
        self._web = [list(row) for row in web]
        self._edges = list(edges)
        self._source = source
        self._numbers = values_from(web, source)
        self._many = 0

    @property
    def web(self):
        """The web."""
        return [list(row) for row in self._web]

    @property
    def edges(self):
        """The list of edges."""
        return list(self._edges)

    @property
    def source(self):
        """The source."""
        return self._source

    @property
    def numbers(self):
        """The list of the values."""
        return list(self._numbers)

    @property
    def many(self):
        """The number of rounds so far."""
        return self._many

    def go(self):
        """Go through one round and tell whether a value changes."""
        self._many += 1
        return go_round(self._web, self._edges, self._numbers)

    def finish(self):
        """Go on until a round changes nothing, and return the number of rounds, this one included."""
        # In a web that is not sound the rounds might go on without an end.
        check_sound(self._web)
        before = self._many
        while self.go():
            pass
        return self._many - before


class Passes:
    """A sound web, an order of the loops and the table after the passes so far."""

    def __init__(self, web, loops):
        check_sound(web)
        check_loops(loops)
        self._web = [list(row) for row in web]
        self._loops = loops
        self._table = [list(row) for row in web]
        self._many = 0

    @property
    def web(self):
        """The web."""
        return [list(row) for row in self._web]

    @property
    def loops(self):
        """The name of the order of the loops."""
        return self._loops

    @property
    def table(self):
        """The table."""
        return [list(row) for row in self._table]

    @property
    def many(self):
        """The number of passes so far."""
        return self._many

    def go(self):
        """Go through one pass and tell whether the table changes."""
        self._many += 1
        return go_pass(self._table, steps_of(len(self._web), self._loops))

    def is_right(self):
        """Tell whether the table has the distances."""
        return self._table == distances(self._web)
