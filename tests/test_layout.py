"""The interface of DOC.md and the rules of LANGUAGE.md that can be seen in the files."""
import ast
import importlib
import inspect
import unittest
from pathlib import Path

PACKAGE = Path(__file__).resolve().parent.parent / "slantways"
FUNCTIONS = {
    "slantways.way.ways": {
        "is_way": ["slope", "value"], "way_count": ["slope"], "ways": ["slope"], "way_at": ["slope", "index"],
        "way_index": ["way"], "highest": ["slope"], "lowest": ["slope"], "run_count": ["slope", "lengths"],
    },
    "slantways.way.turns": {
        "word_levels": ["slope", "text"], "lowest_places": ["slope", "text"], "turned": ["slope", "text", "number"],
        "way_of": ["slope", "text"], "ways_among": ["slope", "text"], "period": ["slope", "text"],
        "touch_count": ["way"], "words_of": ["way"], "turn_to": ["way", "text"],
    },
    "slantways.shelf.shelves": {
        "is_gaps": ["slope", "value"], "moves": ["one", "other"], "is_moves": ["one", "other", "value"],
        "shelves": ["slope"], "filling_count": ["slope"],
    },
    "slantways.heap.heaps": {
        "heap_of": ["shelf"], "shelf_of": ["slope", "heap"], "heaps": ["slope"], "greatest": ["slope"],
        "mean": ["slope"],
    },
    "slantways.count.counts": {
        "room": ["way"], "room_rows": ["way"], "sky": ["way"], "pairs": ["way"], "paired_squares": ["way"],
        "level_pairs": ["way"], "free_numbers": ["shelf"], "counts_of": ["way"],
    },
    "slantways.sort.sorting": {"sorted_way": ["way"], "unsorted_way": ["way"], "way_rounds": ["way"]},
    "slantways.count.tables": {
        "quotient": ["slope"], "times": ["one", "other"], "divided": ["one", "other"], "value_at": ["polynomial", "x"],
        "turn_polynomial": ["order"], "at_turn": ["slope", "order"],
    },
    "slantways.room.fields": {
        "plain_rows": ["field", "length", "rows"], "across": ["field", "length", "rows"],
        "is_spanned": ["field", "length", "rows", "value"], "row_product": ["field", "one", "other"],
        "row_inverse": ["field", "one"], "row_moved": ["field", "one", "many"],
    },
    "slantways.room.rooms": {
        "is_room": ["field", "slope", "value"], "free_places": ["shelf"], "meet": ["one", "other"],
        "factor": ["one", "other"], "rooms_on": ["field", "shelf"], "rooms": ["field", "slope"],
        "room_number": ["field", "slope"],
    },
    "slantways.room.chains": {
        "step_table": ["room"], "step_sizes": ["room"], "is_chain": ["room", "value"], "chains": ["room"],
        "chain_number": ["room"], "is_order_row": ["shelf", "value"], "order_rows": ["shelf"],
        "wish_row": ["slope", "row"], "chains_on": ["field", "shelf"], "chain_total": ["field", "slope"],
    },
    "slantways.shuffle.shuffles": {
        "is_steady": ["slope", "value"], "shuffle_count": ["slope"], "shuffles": ["slope"],
        "is_wishes": ["slope", "value"], "way_of_wishes": ["slope", "wishes"], "wish_rows": ["slope"],
        "shuffle_of": ["slope", "wishes"], "named_table": ["slope"],
    },
    "slantways.parting.partings": {
        "parting_of": ["way"], "way_of_parting": ["slope", "parting"], "partings": ["slope"],
        "turned_way": ["way", "many"], "block_count": ["slope", "blocks"], "kept": ["slope", "many"],
    },
    "slantways.text.strings": {"write_value": ["value"], "read_value": ["string"]},
}
CLASSES = {
    ("slantways.way.ways", "Slope"): (
        ["rises", "steps"], ["of_text", "exchanged", "__eq__", "__str__"],
        ["rises", "steps", "common", "is_coprime", "half"],
    ),
    ("slantways.way.ways", "Way"): (
        ["slope", "text"], ["exchanged", "__len__", "__iter__", "__lt__", "__eq__", "__str__"],
        ["slope", "text", "levels", "runs"],
    ),
    ("slantways.shelf.shelves", "Shelf"): (
        ["slope", "gaps"],
        ["of_way", "of_makers", "way", "dual", "exchanged", "addable", "removable", "added", "removed", "holds",
         "__or__", "__and__", "__contains__", "__eq__", "__str__"],
        ["slope", "gaps", "rise_makers", "step_makers", "makers"],
    ),
    ("slantways.heap.heaps", "Heap"): (
        ["rows"],
        ["of_first_hooks", "turned", "hooks", "holds", "rim", "off", "is_without", "rims", "end_of", "__lt__", "__eq__",
         "__len__", "__iter__", "__str__"],
        ["rows", "size", "first_hooks"],
    ),
    ("slantways.sort.sorting", "Scale"): (
        ["weights"],
        ["place_levels", "order", "sorted_text", "back_levels", "is_back_levels", "unsorted", "is_order", "course",
         "rounds", "way_to", "__getitem__", "__invert__", "__contains__", "__len__", "__eq__", "__str__"],
        ["weights", "letters"],
    ),
    ("slantways.count.tables", "CountTable"): (
        ["slope"],
        ["__getitem__", "row", "room_sums", "pair_sums", "is_even", "value", "spread", "__iter__", "__len__", "__eq__",
         "__str__"],
        ["slope", "total", "half"],
    ),
    ("slantways.room.fields", "Field"): (
        ["size"],
        ["plus", "minus", "times", "over", "negative", "inverse", "order", "power", "__contains__", "__len__",
         "__iter__", "__eq__", "__str__"],
        ["size", "prime", "members", "primitive"],
    ),
    ("slantways.room.rooms", "Room"): (
        ["field", "slope", "rows"],
        ["made_by", "with_numbers", "holds", "by_row", "own_maps", "dual", "__add__", "__contains__", "__len__",
         "__eq__", "__str__"],
        ["field", "slope", "basis", "orders", "shelf", "numbers"],
    ),
    ("slantways.room.chains", "Chain"): (
        ["room", "spaces"], ["all_rooms", "turned", "__len__", "__eq__", "__str__"], ["room", "spaces", "orders"],
    ),
    ("slantways.shuffle.shuffles", "Shuffle"): (
        ["slope", "window"], ["of_names", "__call__", "undone", "__len__", "__iter__", "__eq__", "__str__"],
        ["slope", "window", "named_way", "names", "wishes", "room", "pairs"],
    ),
    ("slantways.parting.partings", "Parting"): (
        ["size", "blocks"],
        ["block_of", "turned_by", "between", "is_finer", "__len__", "__iter__", "__eq__", "__str__"],
        ["size", "blocks", "block_sizes"],
    ),
    ("slantways.desk.desk", "Desk"): (
        ["slope"],
        ["put", "follow", "drop", "promise", "free", "undo", "redo", "during", "kept_way", "rule", "hanging", "promised",
         "broken_by", "twin", "__contains__", "__len__", "__eq__", "__str__"],
        ["slope", "names", "labels", "deeds"],
    ),
}
PARAMETERS = {
    ("slantways.shelf.shelves", "Shelf"): {
        "of_way": ["way"], "of_makers": ["slope", "numbers"], "way": [], "dual": [], "exchanged": [], "addable": [],
        "removable": [], "added": ["number"], "removed": ["number"], "holds": ["other"],
    },
    ("slantways.heap.heaps", "Heap"): {
        "of_first_hooks": ["hooks"], "turned": [], "hooks": [], "holds": ["other"], "rim": ["row", "column"],
        "off": ["row", "column"], "is_without": ["length"], "rims": ["length"], "end_of": ["length"],
    },
    ("slantways.sort.sorting", "Scale"): {
        "place_levels": ["text"], "order": ["text"], "sorted_text": ["text"], "back_levels": ["text"],
        "is_back_levels": ["text", "value"], "unsorted": ["text"], "is_order": ["text", "value"], "course": ["text"],
        "rounds": ["text"], "way_to": ["text", "other"],
    },
    ("slantways.count.tables", "CountTable"): {
        "row": ["x"], "room_sums": [], "pair_sums": [], "is_even": [], "value": ["q", "t"], "spread": [],
    },
    ("slantways.room.fields", "Field"): {
        "plus": ["x", "y"], "minus": ["x", "y"], "times": ["x", "y"], "over": ["x", "y"], "negative": ["x"],
        "inverse": ["x"], "order": ["x"], "power": ["x", "number"],
    },
    ("slantways.room.rooms", "Room"): {
        "made_by": ["field", "slope", "rows"], "with_numbers": ["field", "shelf", "numbers"], "holds": ["other"],
        "by_row": ["row"], "own_maps": [], "dual": [],
    },
    ("slantways.room.chains", "Chain"): {"all_rooms": [], "turned": []},
    ("slantways.shuffle.shuffles", "Shuffle"): {
        "of_names": ["way", "names"], "__call__": ["number"], "undone": ["number"],
    },
    ("slantways.parting.partings", "Parting"): {
        "block_of": ["point"], "turned_by": ["many"], "between": [], "is_finer": ["other"],
    },
    ("slantways.desk.desk", "Desk"): {
        "put": ["name", "way"], "follow": ["name", "rule", "other"], "drop": ["name"], "promise": ["label", "promise"],
        "free": ["label"], "undo": ["many"], "redo": ["many"], "during": ["call"], "kept_way": ["name"],
        "rule": ["name"], "hanging": ["name"], "promised": ["label"], "broken_by": ["name", "way"], "twin": [],
    },
}
CONSTANTS = {
    "slantways.way.ways": {"MAX_SIDE": 60},
    "slantways.shelf.shelves": {"MAX_LISTED": 5000},
    "slantways.heap.heaps": {"MAX_ROW": 60, "MAX_HEAPS": 5000},
    "slantways.sort.sorting": {"MAX_WEIGHT": 12, "MAX_TEXT": 24, "MAX_SORTED_WAY": 40, "MAX_ROUNDS": 5000},
    "slantways.count.tables": {"MAX_WAYS": 5000, "MAX_TERMS": 400, "MAX_ORDER": 100},
    "slantways.room.fields": {"SIZES": (2, 3, 4, 5, 7, 8, 9), "MAX_LENGTH": 60, "MAX_ROWS": 60},
    "slantways.room.rooms": {"MAX_WIDTH": 24},
    "slantways.room.chains": {"MAX_LISTED": 5000},
    "slantways.shuffle.shuffles": {"MAX_SHUFFLES": 5000},
    "slantways.parting.partings": {"MAX_POINTS": 60, "MAX_PARTED": 5000},
    "slantways.desk.desk": {
        "MAX_NAMES": 12, "MAX_PROMISES": 12, "MAX_LETTERS": 24, "RULES": ("dual", "sorted", "unsorted"),
    },
}
GENERATORS = [
    ("slantways.way.ways", "ways"), ("slantways.shelf.shelves", "shelves"), ("slantways.heap.heaps", "heaps"),
    ("slantways.room.rooms", "rooms_on"), ("slantways.room.rooms", "rooms"), ("slantways.room.chains", "chains"),
    ("slantways.room.chains", "order_rows"), ("slantways.shuffle.shuffles", "shuffles"),
    ("slantways.shuffle.shuffles", "wish_rows"), ("slantways.parting.partings", "partings"),
]
LIBRARY = {"math": {"gcd", "lcm", "isqrt", "comb", "perm", "factorial"}}


def is_call_of(node, names):
    """Whether an expression is a call of one of some names."""
    return isinstance(node, ast.Call) and isinstance(node.func, ast.Name) and node.func.id in names


def is_string(node):
    """Whether an expression is a string, an f-string, str(..), repr(..) or the join of a literal (L28)."""
    if isinstance(node, ast.JoinedStr) or is_call_of(node, ("str", "repr")):
        return True
    if isinstance(node, ast.Constant):
        return isinstance(node.value, str)
    is_method = isinstance(node, ast.Call) and isinstance(node.func, ast.Attribute)
    return is_method and node.func.attr == "join" and isinstance(node.func.value, ast.Constant)


def is_length(node):
    """Whether an expression is len(..) or a literal number (L28)."""
    return is_call_of(node, ("len",)) or isinstance(node, ast.Constant) and isinstance(node.value, int)


class InterfaceTest(unittest.TestCase):
    def test_functions(self):
        for module, functions in FUNCTIONS.items():
            for name, parameters in functions.items():
                call = getattr(importlib.import_module(module), name)
                self.assertEqual(call.__module__, module)
                self.assertEqual(list(inspect.signature(call).parameters), parameters)

    def test_classes(self):
        for (module, name), (parameters, methods, properties) in CLASSES.items():
            made = getattr(importlib.import_module(module), name)
            self.assertEqual(made.__module__, module)
            self.assertEqual(list(inspect.signature(made).parameters), parameters)
            for method in methods + properties:
                self.assertIn(method, vars(made), name)
            for word in properties:
                self.assertIsInstance(vars(made)[word], property)

    def test_parameters_of_methods(self):
        for (module, name), methods in PARAMETERS.items():
            made = getattr(importlib.import_module(module), name)
            for method, parameters in methods.items():
                # A class method is bound to its class; of the others the first parameter is the object itself.
                first = [] if isinstance(vars(made)[method], classmethod) else ["self"]
                self.assertEqual(list(inspect.signature(getattr(made, method)).parameters), first + parameters)

    def test_constants(self):
        for module, constants in CONSTANTS.items():
            for name, value in constants.items():
                self.assertEqual(getattr(importlib.import_module(module), name), value)

    def test_defaults(self):
        for module, name, parameter in (("slantways.shelf.shelves", "Shelf", "gaps"),
                                        ("slantways.heap.heaps", "Heap", "rows")):
            made = getattr(importlib.import_module(module), name)
            self.assertEqual(inspect.signature(made).parameters[parameter].default, ())

    def test_generators(self):
        for module, name in GENERATORS:
            self.assertTrue(inspect.isgeneratorfunction(getattr(importlib.import_module(module), name)))
        scale = importlib.import_module("slantways.sort.sorting").Scale
        self.assertTrue(inspect.isgeneratorfunction(scale.course))


class FilesTest(unittest.TestCase):
    def sources(self):
        return sorted(PACKAGE.rglob("*.py"))

    def test_nothing_else_in_the_package(self):
        others = [path for path in PACKAGE.rglob("*") if path.is_file() and path.suffix != ".py"]
        self.assertEqual([path for path in others if "__pycache__" not in path.parts], [])
        for folder in {path.parent for path in self.sources()}:
            self.assertTrue((folder / "__init__.py").is_file(), folder)

    def test_sizes_and_characters(self):
        for path in self.sources():
            text = path.read_bytes().decode("ascii")
            self.assertLess(len(text.splitlines()), 400, path)
            for line in text.split("\n"):
                self.assertLessEqual(len(line), 120, path)
                self.assertTrue(all(" " <= letter <= "~" for letter in line), path)
            for node in ast.walk(ast.parse(text)):
                if isinstance(node, ast.FunctionDef):
                    self.assertLessEqual(node.end_lineno - node.lineno + 1, 40, node.name)

    def test_returns_of_double_underscore_methods(self):
        for path in self.sources():
            for node in ast.walk(ast.parse(path.read_text())):
                if isinstance(node, ast.FunctionDef) and node.name in ("__str__", "__repr__", "__len__"):
                    is_right = is_length if node.name == "__len__" else is_string
                    returns = [one for one in ast.walk(node) if isinstance(one, ast.Return)]
                    self.assertIsInstance(node.body[-1], ast.Return)
                    for one in returns:
                        self.assertTrue(is_right(one.value), (path, one.lineno))

    def test_imports(self):
        for path in self.sources():
            for node in ast.walk(ast.parse(path.read_text())):
                self.assertNotIsInstance(node, ast.Import, path)
                if isinstance(node, ast.ImportFrom) and not node.module.startswith("slantways."):
                    for name in node.names:
                        self.assertIn(name.name, LIBRARY[node.module], path)


if __name__ == "__main__":
    unittest.main()
