"""What a loop of the package walks is not changed in it, by no name that stands for it (L23)."""
import ast
import unittest
from pathlib import Path

from slantways.shuffle.names import namings, rises_by_wishes
from slantways.way.ways import Slope, Way

PACKAGE = Path(__file__).resolve().parent.parent / "slantways"
CHANGES = ("append", "clear", "extend", "insert", "pop", "remove", "reverse", "setdefault", "sort", "update")
WALKERS = ("enumerate", "reversed", "zip")
VIEWS = ("items", "keys", "values")
FAULT = """
def longer_rows(rows):
    for name in range(3):
        longer = []
        for row in rows:
            longer.append(row + [name])
        rows = longer
    return rows
"""


def owner(node):
    """The name or attribute whose value an expression reads or changes, as text; None if there is none."""
    while isinstance(node, ast.Subscript):
        node = node.value
    return ast.unparse(node) if isinstance(node, (ast.Name, ast.Attribute)) else None


def choices(node):
    """The expressions of which one is the value of an expression."""
    if isinstance(node, ast.IfExp):
        return choices(node.body) + choices(node.orelse)
    if isinstance(node, ast.BoolOp):
        return [one for value in node.values for one in choices(value)]
    return [node]


def walked(node):
    """The names and attributes that a loop over an expression walks without a copy."""
    found = []
    for one in choices(node):
        if isinstance(one, ast.Call) and isinstance(one.func, ast.Name) and one.func.id in WALKERS:
            found.extend([name for part in one.args for name in walked(part)])
        elif isinstance(one, ast.Call) and isinstance(one.func, ast.Attribute) and one.func.attr in VIEWS:
            found.append(owner(one.func.value))
        else:
            found.append(owner(one))
    return [name for name in found if name is not None]


def changed(node):
    """The names and attributes whose values a node of a tree changes."""
    if isinstance(node, ast.Call) and isinstance(node.func, ast.Attribute) and node.func.attr in CHANGES:
        return [owner(node.func.value)]
    if isinstance(node, ast.AugAssign):
        return [owner(node.target)]
    if isinstance(node, (ast.Assign, ast.Delete)):
        return [owner(target) for target in node.targets if isinstance(target, ast.Subscript)]
    return []


def same_values(function):
    """A dict that tells for each name of a function all names that an assignment makes stand for its value."""
    groups = {}
    for node in ast.walk(function):
        if isinstance(node, ast.Assign):
            names = [owner(one) for one in node.targets + choices(node.value)]
            joined = {other for name in names if name is not None for other in groups.get(name, {name})}
            groups.update({name: joined for name in joined})
    return groups


def faults(source):
    """The rows of a source in which a loop changes what it walks."""
    found = set()
    for function in ast.walk(ast.parse(source)):
        if isinstance(function, ast.FunctionDef):
            groups = same_values(function)
            for loop in ast.walk(function):
                if isinstance(loop, ast.For):
                    names = {other for name in walked(loop.iter) for other in groups.get(name, {name})}
                    inner = [node for row in loop.body for node in ast.walk(row)]
                    found.update([node.lineno for node in inner if names & set(changed(node))])
    return sorted(found)


class WalkedTest(unittest.TestCase):
    def test_no_loop_changes_what_it_walks(self):
        for path in sorted(PACKAGE.rglob("*.py")):
            self.assertEqual(faults(path.read_text()), [], path)

    def test_faults_are_found(self):
        self.assertEqual(faults(FAULT), [6])
        self.assertEqual(faults(FAULT.replace("in rows", "in enumerate(rows)")), [6])
        self.assertEqual(faults(FAULT.replace("rows = longer", "rows = longer or rows")), [6])
        self.assertEqual(faults(FAULT.replace("longer.append(row", "rows[0] = (row")), [6])
        self.assertEqual(faults(FAULT.replace("in rows", "in list(rows)")), [])


class NamesTest(unittest.TestCase):
    def test_namings(self):
        self.assertEqual(namings(()), [()])
        self.assertEqual(namings((3,)), [(1, 2, 3)])
        self.assertEqual(namings((2, 1)), [(1, 2, 3), (1, 3, 2), (2, 3, 1)])
        self.assertEqual(namings((1, 1)), [(1, 2), (2, 1)])

    def test_rises_by_wishes(self):
        way = Way(Slope(3, 4), "rrsrsss")
        self.assertEqual(rises_by_wishes(way, (0, 2, 1)), [(1, 3, 2)])
        self.assertEqual(rises_by_wishes(way, (9, 9, 9)), [])


if __name__ == "__main__":
    unittest.main()
