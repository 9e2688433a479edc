"""Checks of the package's loops: what a loop or a comprehension walks is not changed in it (L23).

Two fields of one object can be the same list, so where one of them is walked no other one is changed.
"""

import ast
import textwrap
import unittest

from test_form import each_tree

CHANGING = set("append clear extend insert pop remove reverse setdefault sort update add discard".split())
HEAPS = set("heappush heappop heapify heapreplace heappushpop".split())
SEEN_THROUGH = set("enumerate zip reversed iter map".split())
VIEWS = set("items keys values".split())
SCOPES = (ast.FunctionDef, ast.Lambda)
COMPREHENSIONS = (ast.ListComp, ast.SetComp, ast.DictComp, ast.GeneratorExp)


def places(node):
    """The names and fields that an expression can stand for: itself, or what a choice takes."""
    if isinstance(node, ast.Name):
        return [node.id]
    if isinstance(node, ast.Attribute):
        return ["." + node.attr]
    if isinstance(node, ast.Subscript):
        return [place + "[]" for place in places(node.value)]
    if isinstance(node, ast.IfExp):
        return places(node.body) + places(node.orelse)
    if isinstance(node, ast.BoolOp):
        return [place for one in node.values for place in places(one)]
    if isinstance(node, ast.NamedExpr):
        return places(node.target) + places(node.value)
    if isinstance(node, ast.Starred):
        return places(node.value)
    return []


def walked(node):
    """The expressions that a loop over an expression walks; a call of `list` and the like gives something else."""
    if isinstance(node, ast.Call) and isinstance(node.func, ast.Name) and node.func.id in SEEN_THROUGH:
        return [thing for one in node.args for thing in walked(one)]
    if isinstance(node, ast.Call) and isinstance(node.func, ast.Attribute) and node.func.attr in VIEWS:
        return [node.func.value]
    return choices_of(node)


def choices_of(node):
    """The expressions of which a choice takes one, or the expression itself."""
    if isinstance(node, (ast.IfExp, ast.BoolOp)):
        several = [node.body, node.orelse] if isinstance(node, ast.IfExp) else node.values
        return [thing for one in several for thing in walked(one)]
    return [node]


def owners(things):
    """The objects of which some expressions are fields, or items of fields."""
    found = set()
    for thing in [one for several in things for one in choices_of(several)]:
        while isinstance(thing, ast.Subscript):
            thing = thing.value
        if isinstance(thing, ast.Attribute):
            found.add(ast.unparse(thing.value))
    return found


def changed(nodes):
    """The lines and the expressions of all that is changed within some nodes."""
    found = []
    for node in [inner for one in nodes for inner in ast.walk(one)]:
        if isinstance(node, (ast.Subscript, ast.Attribute)) and isinstance(node.ctx, (ast.Store, ast.Del)):
            found.append((node.lineno, node.value))
        elif isinstance(node, ast.AugAssign):
            found.append((node.lineno, node.target))
        elif isinstance(node, ast.Call) and isinstance(node.func, ast.Attribute) and node.func.attr in CHANGING:
            found.append((node.lineno, node.func.value))
        elif isinstance(node, ast.Call) and isinstance(node.func, ast.Name) and node.func.id in HEAPS:
            found.append((node.lineno, node.args[0]))
    return found


def names_of_one(function):
    """For each place the least one of those that an assignment of the function gives the same value."""
    first = {}

    def root(place):
        while first.get(place, place) != place:
            place = first[place]
        return place

    for node in ast.walk(function):
        pairs = []
        if isinstance(node, ast.Assign):
            for target in node.targets:
                pairs.append((target, node.value))
                if isinstance(target, ast.Tuple) and isinstance(node.value, ast.Tuple):
                    pairs.extend(zip(target.elts, node.value.elts))
        elif isinstance(node, ast.NamedExpr):
            pairs.append((node.target, node.value))
        for target, value in pairs:
            for one in places(target):
                for other in places(value):
                    first[max(root(one), root(other))] = min(root(one), root(other))
    return root


def loops(function):
    """Pairs of the expressions that a loop or a comprehension walks, and the nodes that stand in it."""
    found = []
    for node in ast.walk(function):
        if isinstance(node, ast.For):
            found.append((walked(node.iter), node.body))
        elif isinstance(node, COMPREHENSIONS):
            inner = [node.key, node.value] if isinstance(node, ast.DictComp) else [node.elt]
            inner += [one for part in node.generators for one in part.ifs]
            found.extend([(walked(part.iter), inner) for part in node.generators])
    return found


def walked_and_changed(tree):
    """The lines at which something is changed in a loop that walks it, or that walks another field of its object."""
    found = []
    for function in ast.walk(tree):
        if isinstance(function, SCOPES):
            root = names_of_one(function)
            for things, inner in loops(function):
                roots = {root(place) for thing in things for place in places(thing)}
                above = owners(things)
                for line, thing in changed(inner):
                    if roots & {root(place) for place in places(thing)} or above & owners([thing]):
                        found.append(line)
    return sorted(set(found))


class Walked(unittest.TestCase):
    def test_nothing_that_is_walked_is_changed(self):
        for path, tree in each_tree():
            self.assertEqual(walked_and_changed(tree), [], path)

    def lines(self, text):
        return walked_and_changed(ast.parse(textwrap.dedent(text)))

    def test_what_is_found(self):
        """The row that had this form, and others; the line is told at which something is changed."""
        self.assertEqual(self.lines("""\
            def f(left):
                for at in range(3):
                    fewer = {}
                    for total in left:
                        fewer[total - 1] = fewer.get(total - 1, 0)
                    left = fewer
            """), [5])
        for head, row in [("for k in xs:", "xs.append(k)"), ("for k in xs:", "xs[k] = 1"),
                          ("for k in xs:", "xs += [k]"),
                          ("for k in xs:", "del xs[0]"), ("for k in xs.items():", "xs.pop(k)"),
                          ("for k, y in enumerate(xs):", "xs.append(y)"), ("for k in a if a else xs:", "xs.clear()"),
                          ("for k in self.xs:", "self.xs.append(k)"), ("for k in self.xs:", "other.xs.append(k)"),
                          ("for k in xs:", "heappush(xs, k)"), ("for k in zip(a, xs):", "xs.insert(0, k)"),
                          ("for k in xs or a:", "a.append(k)"), ("for k in xs[0]:", "xs[0].append(k)")]:
            self.assertEqual(self.lines(f"def f(self, xs, a, other):\n    {head}\n        {row}\n"), [3], (head, row))
        self.assertEqual(self.lines("def f(xs):\n    return [xs.pop() for k in xs]\n"), [2])
        self.assertEqual(self.lines("def f(xs):\n    ys = xs\n    for k in xs:\n        ys.append(k)\n"), [4])

    def test_fields_of_one_object(self):
        """Rows that walk a field and change another one; the first one had this form, the walk of `list` has not."""
        for walk, due in [("enumerate(self._nodes)", [5]), ("enumerate(list(self._nodes))", []),
                          ("list(enumerate(self._nodes))", [])]:
            self.assertEqual(self.lines(f"""\
                def f(self):
                    due = [(0, ())]
                    for place, (binders, head, _) in {walk}:
                        side, above = due.pop()
                        self._rows.append((side, head, above))
                        due.extend([(side, above)])
                """), due)
        rows = ["self.ys.append(k)", "self.ys[k] = 1", "self.ys[0].append(k)", "self.ys += [k]", "del self.ys[0]",
                "heappush(self.ys, k)", "(a or self.ys).pop()"]
        let = ["other.ys.append(k)", "self.zs.ys.append(k)", "a.append(k)", "self.ys = [k]", "self.ys.count(k)"]
        for head in ["enumerate(self.xs)", "self.xs", "zip(b, self.xs)", "reversed(self.xs)", "self.xs or b",
                     "enumerate(b if a else self.xs)", "enumerate(self.xs[0])", "self.xs.items()"]:
            for row in rows + let:
                text = f"def f(self, xs, a, b, other):\n    for k in {head}:\n        {row}\n"
                self.assertEqual(self.lines(text), [3] if row in rows else [], (head, row))
        self.assertEqual(self.lines("def f(self):\n    return [self.ys.pop() for k in enumerate(self.xs)]\n"), [2])

    def test_what_is_let(self):
        for head, row in [("for k in list(xs):", "xs.append(k)"), ("for k in xs:", "a.append(k)"),
                          ("for k in sorted(xs.items()):", "xs.pop(k)"), ("for k in xs:", "xs = a"),
                          ("while xs:", "xs.pop()"), ("for k in range(len(xs)):", "xs[k] = 1"),
                          ("for k in xs:", "xs[k].append(1)")]:
            self.assertEqual(self.lines(f"def f(self, xs, a, other):\n    {head}\n        {row}\n"), [], (head, row))


if __name__ == "__main__":
    unittest.main()
