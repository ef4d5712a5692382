"""That what operators, comparisons, lengths and properties run changes only lists of its own."""

import ast
import pathlib
import unittest

import stillgrows

FOLDER = pathlib.Path(stillgrows.__file__).parent
# Methods that may change something, or that only look like operators.
OTHERS = ("__init__", "__call__", "__enter__", "__exit__", "__setitem__")
CHANGING = ("append", "clear", "extend", "insert", "pop", "remove", "reverse", "setdefault", "sort", "update",
            "add", "discard")
MAKERS = ("list", "dict", "sorted")
# What goes over the things that it is given, and over a part of a dict.
WRAPPERS = ("enumerate", "zip", "reversed")
VIEWS = ("items", "keys", "values")
HOLDERS = (ast.Name, ast.Attribute, ast.Subscript)


class Package:
    """The functions and methods of the package, and which of them an operator runs."""

    def __init__(self, trees):
        self.functions = {}
        self.methods = {}
        self.makers = {}
        self.roots = []
        # The names by which objects hold something.
        self.attributes = set()
        for tree in trees:
            self.attributes.update(node.attr for node in ast.walk(tree)
                                   if isinstance(node, ast.Attribute) and not isinstance(node.ctx, ast.Load))
            for node in tree.body:
                if isinstance(node, ast.FunctionDef):
                    self.functions[node.name] = node
                elif isinstance(node, ast.ClassDef):
                    self.take_class(node)

    def take_class(self, kind):
        for node in kind.body:
            if not isinstance(node, ast.FunctionDef):
                continue
            decorators = [found.id for found in node.decorator_list if isinstance(found, ast.Name)]
            self.methods.setdefault(node.name, []).append(node)
            if node.name == "__init__":
                self.makers[kind.name] = node
            if "property" in decorators or (node.name.startswith("__") and node.name not in OTHERS):
                self.roots.append(node)

    def called(self, node):
        """What a function calls, by name: methods of one name count together."""
        for found in ast.walk(node):
            if not isinstance(found, ast.Call):
                continue
            if isinstance(found.func, ast.Name) and found.func.id == "cls":
                yield from self.makers.values()
            elif isinstance(found.func, ast.Name):
                for table in (self.functions, self.makers):
                    if found.func.id in table:
                        yield table[found.func.id]
            elif isinstance(found.func, ast.Attribute):
                yield from self.methods.get(found.func.attr, [])

    def run_by_operators(self):
        found = list(self.roots)
        for node in found:
            found.extend([other for other in self.called(node) if other not in found])
        return found


def made_here(function):
    """The local names that the function assigns only lists and dicts that it creates."""
    made, other = set(), {argument.arg for argument in ast.walk(function.args) if isinstance(argument, ast.arg)}
    for node in ast.walk(function):
        if not isinstance(node, ast.Assign):
            continue
        worth = node.value
        fresh = isinstance(worth, (ast.List, ast.Dict, ast.ListComp)) or (
            isinstance(worth, ast.Call) and isinstance(worth.func, ast.Name) and worth.func.id in MAKERS)
        for target in node.targets:
            for name in ast.walk(target):
                if isinstance(name, ast.Name) and isinstance(name.ctx, ast.Store):
                    (made if fresh and name is target else other).add(name.id)
    return made - other


def changed_things(function):
    """What the function changes: the receivers of changing methods, and the bases of items."""
    for node in ast.walk(function):
        if isinstance(node, ast.Call) and isinstance(node.func, ast.Attribute) and node.func.attr in CHANGING:
            yield node.func.value
        elif isinstance(node, (ast.Subscript, ast.Attribute)) and not isinstance(node.ctx, ast.Load):
            yield node.value


def calls_of_held(package):
    """Calls by a name by which objects hold something, in what operators run."""
    for function in package.run_by_operators():
        for node in ast.walk(function):
            if (isinstance(node, ast.Call) and isinstance(node.func, ast.Attribute)
                    and node.func.attr in package.attributes):
                yield function.name, node.lineno


def gone_over(worth):
    """The texts of the things that a loop over the value goes over; a copy by `list` is another thing."""
    if isinstance(worth, ast.Call) and isinstance(worth.func, ast.Name) and worth.func.id in WRAPPERS:
        return {text for part in worth.args for text in gone_over(part)}
    if isinstance(worth, ast.Call) and isinstance(worth.func, ast.Attribute) and worth.func.attr in VIEWS:
        return {ast.unparse(worth.func.value)}
    if isinstance(worth, ast.IfExp):
        return gone_over(worth.body) | gone_over(worth.orelse)
    if isinstance(worth, ast.BoolOp):
        return {text for part in worth.values for text in gone_over(part)}
    return {ast.unparse(worth)} if isinstance(worth, HOLDERS) else set()


def other_names(function):
    """For each name, attribute or item the others that are given the same thing somewhere in the function."""
    alike = {}
    for node in ast.walk(function):
        if isinstance(node, ast.Assign) and isinstance(node.value, HOLDERS):
            for target in node.targets:
                one, two = ast.unparse(target), ast.unparse(node.value)
                alike.setdefault(one, set()).add(two)
                alike.setdefault(two, set()).add(one)
    return alike


def changed_in_loops(function):
    """Loops that change what they go over, or what is given the same thing as that."""
    alike = other_names(function)
    for node in ast.walk(function):
        if isinstance(node, ast.For):
            texts = gone_over(node.iter)
            texts |= {other for text in texts for other in alike.get(text, ())}
            for row in node.body:
                for thing in changed_things(row):
                    text = ast.unparse(thing)
                    if any(other == text or other.startswith((text + "[", text + ".")) for other in texts):
                        yield function.name, thing.lineno


def faults(package):
    found = []
    for function in package.run_by_operators():
        made = made_here(function)
        for thing in changed_things(function):
            own = isinstance(thing, ast.Name) and (
                thing.id in made or (function.name == "__init__" and thing.id == "self"))
            if not own:
                found.append((function.name, thing.lineno))
    return found


class TestForm(unittest.TestCase):
    def test_the_package(self):
        package = Package([ast.parse(file.read_text()) for file in sorted(FOLDER.glob("*.py"))])
        names = {node.name for node in package.run_by_operators()}
        self.assertLessEqual({"canonical", "divided_blocks", "paired", "check_row", "in_row_order"}, names)
        self.assertEqual(faults(package), [])
        self.assertLessEqual({"count", "index", "start"}, package.attributes)
        self.assertEqual(list(calls_of_held(package)), [])

    def test_no_loop_changes_what_it_goes_over(self):
        for file in sorted(FOLDER.glob("*.py")):
            for node in ast.walk(ast.parse(file.read_text())):
                if isinstance(node, ast.FunctionDef):
                    self.assertEqual(list(changed_in_loops(node)), [], file.name)
        form = "def put(found):\n    for at in {}:\n        longer[at] = 1\n    found = longer\n"
        for walked, many in (("found", 1), ("longer", 1), ("list(found)", 0), ("other", 0), ("found.items()", 1),
                             ("zip(other, found)", 1), ("enumerate(longer)", 1), ("zip(other, list(found))", 0),
                             ("found or other", 1), ("longer[0]", 1), ("found[0]", 0), ("range(len(longer))", 0)):
            self.assertEqual(len(list(changed_in_loops(ast.parse(form.format(walked)).body[0]))), many, walked)

    def test_that_calls_of_held_things_are_found(self):
        form = ("class Box:\n    def __init__(self):\n        self.many = 1\n"
                "    def __len__(self):\n        return {}\n")
        for worth, many in (("self.rows.many(1)", 1), ("self.many", 0), ("self.rows.few(1)", 0)):
            self.assertEqual(len(list(calls_of_held(Package([ast.parse(form.format(worth))])))), many, worth)

    def test_that_faults_are_found(self):
        form = "class Box:\n    def __and__(self, other):\n        return put(self)\ndef put(rows):\n    {}\n"
        for line in ("rows.append(1)", "rows[0] = 1", "at = [[]]; at[0].append(1)", "at = [[]]; at[0][0] = 1",
                     "rows.many = 1", "at = rows; at.pop()", "at = {}; at = rows; at.clear()", "del rows[0]"):
            self.assertEqual(len(faults(Package([ast.parse(form.format(line))]))), 1, line)
        for line in ("at = [1]; at.append(2)", "at = list(rows); at[0] = 1", "at = {}; at[0] = rows", "at = rows[0]"):
            self.assertEqual(faults(Package([ast.parse(form.format(line))])), [], line)


if __name__ == "__main__":
    unittest.main()
