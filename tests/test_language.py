"""The package keeps to the rules of its language that are plain to see, and to the files of its interface."""

import ast
import os
import unittest

FOLDER = os.path.join(os.path.dirname(os.path.dirname(os.path.abspath(__file__))), "looporder")

INTERFACE = {
    "errors.py": [
        ("InvalidWeb", None), ("UnknownPlace", None), ("LowRing", None), ("NotSingle", None), ("InvalidEdges", None),
        ("InvalidWalk", None), ("InvalidOrder", None), ("InvalidWay", None), ("InvalidNumber", None),
        ("InvalidSize", None), ("UnknownLoops", None), ("InvalidText", None), ("TooMany", None),
    ],
    "webs.py": [
        ("web_of_edges", ["size", "edges"]), ("edges_of", ["web"]), ("turned_web", ["web"]),
        ("renumbered", ["web", "numbering"]), ("low_ring", ["web"]), ("distances", ["web"]), ("is_single", ["web"]),
    ],
    "walks.py": [("length_of", ["web", "walk"]), ("shortest_way", ["web", "x", "y"]), ("each_way", ["web"])],
    "rounds.py": [
        ("values_after", ["web", "edges", "source", "rounds"]), ("runs", ["web", "edges", "walk"]),
        ("pieces", ["web", "edges", "walk"]), ("walk_within", ["web", "edges", "source", "place", "rounds"]),
        ("fewest_runs", ["web", "edges", "source"]), ("rounds_needed", ["web", "edges", "source"]),
        ("rounds_for_all", ["web", "edges"]),
    ],
    "orders.py": [
        ("count_lists", ["many", "number"]), ("halved_list", ["web", "order"]), ("list_for", ["web", "source"]),
        ("count_lists_for", ["web", "source"]), ("list_for_all", ["web"]), ("ring_of_edges", ["web"]),
        ("list_whatever", ["web"]),
    ],
    "moves.py": [
        ("fewest_moved", ["web", "edges", "source"]), ("turned_rows", ["web", "edges", "source"]),
        ("are_turned_rows", ["web", "edges", "source", "thing"]),
    ],
    "passes.py": [("table_after", ["web", "loops", "passes"]), ("passes_needed", ["web", "loops"])],
    "seen.py": [
        ("is_seen", ["way", "loops", "passes"]), ("passes_for", ["way", "loops"]),
        ("unseen_way", ["web", "loops", "passes"]), ("count_seen", ["size", "loops", "passes"]),
    ],
    "numberings.py": [("falling_numbering", ["web"]), ("good_numbering", ["web", "loops"])],
    "kinds.py": [("Rounds", None), ("Passes", None)],
    "text.py": [
        ("format_web", ["web"]), ("parse_web", ["text"]), ("format_edges", ["web", "edges"]),
        ("parse_edges", ["web", "text"]),
    ],
}

# For each class with methods: their arguments; and the properties.
METHODS = {
    "Rounds": {"__init__": ["self", "web", "edges", "source"], "go": ["self"], "finish": ["self"]},
    "Passes": {"__init__": ["self", "web", "loops"], "go": ["self"], "is_right": ["self"]},
}
PROPERTIES = {
    "Rounds": ["web", "edges", "source", "numbers", "many"],
    "Passes": ["web", "loops", "table", "many"],
}
# What may be imported from outside the package.
LIBRARY = {"itertools": {"combinations", "permutations"}}


def read_files():
    """A dict with the text of each file of the package."""
    texts = {}
    for name in sorted(os.listdir(FOLDER)):
        if name != "__pycache__":
            with open(os.path.join(FOLDER, name), encoding="utf-8") as file:
                texts[name] = file.read()
    return texts


class LanguageTest(unittest.TestCase):
    def setUp(self):
        self.texts = read_files()
        self.trees = {name: ast.parse(text) for name, text in self.texts.items()}

    def test_files_and_characters(self):
        for name, text in self.texts.items():
            self.assertRegex(name, r"\A[a-z_]+\.py\Z")
            self.assertTrue(all(sign == "\n" or " " <= sign <= "~" for sign in text), name)
            self.assertLessEqual(text.count("\n"), 399, name)
            self.assertLessEqual(max(map(len, text.split("\n"))), 120, name)

    def test_functions_are_short(self):
        for name, tree in self.trees.items():
            for node in ast.walk(tree):
                if isinstance(node, ast.FunctionDef):
                    self.assertLessEqual(node.end_lineno - node.lineno + 1, 40, (name, node.name))

    def test_imports_name_the_file_that_defines_the_name(self):
        for name, tree in self.trees.items():
            for node in ast.walk(tree):
                self.assertNotIsInstance(node, ast.Import, name)
                if isinstance(node, ast.ImportFrom) and node.module in LIBRARY:
                    self.assertLessEqual({part.name for part in node.names}, LIBRARY[node.module], name)
                elif isinstance(node, ast.ImportFrom):
                    package, _, module = node.module.partition(".")
                    self.assertEqual(("looporder", 0), (package, node.level), name)
                    defined = {part.name for part in self.trees[module + ".py"].body if hasattr(part, "name")}
                    self.assertLessEqual({part.name for part in node.names}, defined, name)

    def test_the_names_of_the_loops_stand_in_their_file(self):
        for name, tree in self.trees.items():
            assigned = [part.id for node in tree.body if isinstance(node, ast.Assign) for part in node.targets]
            self.assertEqual(name == "passes.py", "LOOPS" in assigned, name)

    def test_the_interface_is_defined_in_its_files(self):
        for name, expected in INTERFACE.items():
            found = {}
            for node in self.trees[name].body:
                if isinstance(node, ast.ClassDef):
                    found[node.name] = None
                elif isinstance(node, ast.FunctionDef):
                    found[node.name] = [part.arg for part in node.args.args]
            for thing, arguments in expected:
                self.assertIn(thing, found)
                self.assertEqual(arguments, found[thing])

    def test_methods_and_properties_stand_in_their_classes(self):
        for node in self.trees["kinds.py"].body:
            if isinstance(node, ast.ClassDef):
                parts = [part for part in node.body if isinstance(part, ast.FunctionDef)]
                plain = {part.name: [one.arg for one in part.args.args] for part in parts if not part.decorator_list}
                self.assertEqual(METHODS[node.name], plain)
                decorated = {part.name: [one.id for one in part.decorator_list] for part in parts if part.decorator_list}
                self.assertEqual({name: ["property"] for name in PROPERTIES[node.name]}, decorated)
