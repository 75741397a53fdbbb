"""Rule L23 of the language, read off the files: what is walked is not changed, by its name, a field or a choice."""

import ast
import pathlib
import unittest

PACKAGE = pathlib.Path(__file__).resolve().parent.parent / "underwords"

CHANGING = """append clear extend insert pop remove reverse setdefault sort update add discard appendleft popleft extendleft
rotate""".split()
HEAPS = ("heappush", "heappop", "heapify", "heapreplace", "heappushpop")
PASSING = ("enumerate", "zip", "reversed", "iter", "map")
VIEWS = ("items", "keys", "values")
LOOPS = (ast.For, ast.ListComp, ast.SetComp, ast.DictComp, ast.GeneratorExp)

# Functions in a row each: those that the rule does not allow, and those that it allows.
WRONG = (
    "left[at] += left[at - 1]",
    "counts[high] += counts[low]",
    "self.over[low] |= self.over[high]",
    "rows += rows",
    "kept = rows\n    kept += rows",
    "rows.extend(rows)",
    "table.update(table[at])",
    "out = self.rows\n    out.extend([row for row in self.rows])",
    "while now:\n        ahead = []\n        for at in now:\n            ahead.append(at)\n        now = ahead",
    "a, b = b, a\n    for x in a:\n        b.pop()",
    "kept = rows if many else other\n    for row in other:\n        kept[0] = row",
    "for row in rows or other:\n        other.append(row)",
    "for at, row in enumerate(rows):\n        rows[at] = row",
    "for key, row in table.items():\n        del table[key]",
    "for row in self.rows:\n        self.rows.remove(row)",
    "for row in rows:\n        rows += [row]",
    "for row in rows:\n        heappush(rows, row)",
    "for row in rows[at]:\n        if row:\n            rows[at].append(row)\n            return row",
    "return [rows.pop() for row in rows]",
)
RIGHT = (
    "left[at] = left[at] + left[at - 1]",
    "counts[high] += 1",
    "total += more * total_of(other)",
    "rows.extend(list(rows))",
    "rows.extend([row for row in other])",
    "while now:\n        ahead = []\n        for at in now:\n            ahead.append(at)\n        now = list(ahead)",
    "for row in list(rows):\n        rows.append(row)",
    "for at in range(len(rows)):\n        rows[at] = at",
    "for row in rows:\n        other.append(row)",
)


def own_name(node):
    """The name at which a value is kept, None if there is none: that of a field begins with a dot."""
    while isinstance(node, ast.Subscript):
        node = node.value
    if isinstance(node, ast.Attribute):
        return "." + node.attr
    return node.id if isinstance(node, ast.Name) else None


def names_of(node):
    """The names of what an expression may be, itself or an item of it, without what makes a new value."""
    parts = []
    if isinstance(node, ast.IfExp):
        parts = [node.body, node.orelse]
    elif isinstance(node, ast.BoolOp):
        parts = node.values
    elif isinstance(node, (ast.Starred, ast.NamedExpr)):
        parts = [node.value]
    elif isinstance(node, ast.Call) and isinstance(node.func, ast.Name) and node.func.id in PASSING:
        parts = node.args
    elif isinstance(node, ast.Call) and isinstance(node.func, ast.Attribute) and node.func.attr in VIEWS:
        parts = [node.func.value]
    elif own_name(node):
        return {own_name(node)}
    return {name for part in parts for name in names_of(part)}


def mentioned(nodes):
    """The names that stand anywhere in the expressions, except for what is copied as a whole."""
    found = set()
    waiting = list(nodes)
    while waiting:
        node = waiting.pop()
        if isinstance(node, ast.Call) and isinstance(node.func, ast.Name) and node.func.id in ("list", "dict", "len"):
            continue
        found.update({own_name(node)} - {None})
        waiting.extend(ast.iter_child_nodes(node))
    return found


def bindings(target, value):
    """The pairs of a name and an expression whose value it gets."""
    if isinstance(target, ast.Tuple) and isinstance(value, ast.Tuple) and len(target.elts) == len(value.elts):
        return [pair for one, other in zip(target.elts, value.elts) for pair in bindings(one, other)]
    return [(own_name(target), value)] if isinstance(target, (ast.Name, ast.Attribute)) else []


def closure_of(function):
    """A function that adds to names all those that may have the same value, as assignments of whole values tell."""
    pairs = set()
    for node in ast.walk(function):
        for target in node.targets if isinstance(node, ast.Assign) else ():
            for name, value in bindings(target, node.value):
                if not isinstance(value, ast.Subscript):
                    pairs.update({(name, other) for other in names_of(value)})
    pairs |= {(other, name) for name, other in pairs}

    def closed(names):
        found = set(names)
        while True:
            more = {other for name, other in pairs if name in found} - found
            if not more:
                return found
            found |= more
    return closed


def changed_names(nodes):
    """The names of what is changed somewhere in the nodes."""
    found = set()
    for node in [inner for top in nodes for inner in ast.walk(top)]:
        if isinstance(node, (ast.Subscript, ast.Attribute)) and isinstance(node.ctx, (ast.Store, ast.Del)):
            found |= names_of(node)
        elif isinstance(node, ast.AugAssign):
            found |= names_of(node.target)
        elif isinstance(node, ast.Call) and isinstance(node.func, ast.Attribute) and node.func.attr in CHANGING:
            found |= names_of(node.func.value)
        elif isinstance(node, ast.Call) and isinstance(node.func, ast.Name) and node.func.id in HEAPS:
            found |= names_of(node.args[0])
    return found


def walk_and_change(node):
    """The names of what a node walks, and of what it changes meanwhile."""
    if isinstance(node, ast.AugAssign) and isinstance(node.op, (ast.Add, ast.BitOr)):
        return mentioned([node.value]), names_of(node.target)
    if isinstance(node, ast.Call) and isinstance(node.func, ast.Attribute) and node.func.attr in ("extend", "update"):
        return mentioned(node.args), names_of(node.func.value)
    if isinstance(node, ast.For):
        return names_of(node.iter), changed_names([*node.body, *node.orelse])
    if isinstance(node, LOOPS):
        return {name for part in node.generators for name in names_of(part.iter)}, changed_names([node])
    return set(), set()


def faults(tree):
    """The rows where what is walked is changed."""
    found = []
    for function in [node for node in ast.walk(tree) if isinstance(node, ast.FunctionDef)]:
        closed = closure_of(function)
        for node in ast.walk(function):
            walked, changed = walk_and_change(node)
            if closed(walked) & closed(changed):
                found.append((node.lineno, ast.unparse(node)))
    return found


class WalksTest(unittest.TestCase):
    def test_what_the_rule_does_not_allow_is_found(self):
        for body in WRONG:
            self.assertTrue(faults(ast.parse(f"def f():\n    {body}\n")), body)

    def test_what_the_rule_allows_is_let(self):
        for body in RIGHT:
            self.assertEqual(faults(ast.parse(f"def f():\n    {body}\n")), [], body)

    def test_what_is_walked_is_not_changed(self):
        for path in sorted(PACKAGE.rglob("*.py")):
            self.assertEqual(faults(ast.parse(path.read_text(encoding="utf-8"))), [], path)


if __name__ == "__main__":
    unittest.main()
