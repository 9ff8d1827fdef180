"""Checks what the rules L5 and L18 say of operators and properties: they change nothing that
they did not create, call nothing that they are passed or hold, and call no name that is an
attribute of a class; nor does what they call.

`faults(files)` is as in language.py. It knows functions and methods by their names alone.
"""

import ast

from language import DUNDERS

IN_PLACE = {name for name in DUNDERS if name.startswith("__i") and name not in ("__init__", "__invert__", "__iter__")}
CHANGING = {"__setitem__"} | IN_PLACE
OTHERS = {"__init__", "__enter__", "__exit__", "__call__", "__iter__"} | CHANGING
CHANGES = set("append clear extend insert pop remove reverse setdefault update sort add discard".split())
MAKERS = ("list", "dict", "set", "sorted")
NEW = (ast.List, ast.Dict, ast.Set, ast.ListComp, ast.DictComp, ast.SetComp)


def faults(files):
    trees = {name: ast.parse(source) for name, source in files.items()}
    classes = {node.name for tree in trees.values() for node in ast.walk(tree) if isinstance(node, ast.ClassDef)}
    functions = {}
    for name, tree in trees.items():
        for node in ast.walk(tree):
            if isinstance(node, ast.FunctionDef):
                functions.setdefault(node.name, []).append((name, node))
    attributes = {
        node.attr for tree in trees.values() for node in ast.walk(tree)
        if isinstance(node, ast.Attribute) and isinstance(node.ctx, ast.Store)
    }
    found = [
        f"{name}:{line}: L5 {text}"
        for name, node in reached(functions, classes, DUNDERS - OTHERS)
        for line, text in changes(node, classes)
    ]
    return found + [
        f"{name}:{call.lineno}: L18 calls what is the name of an attribute"
        for name, node in reached(functions, classes, DUNDERS - OTHERS | CHANGING)
        for call in calls(node) if called(call) in attributes
    ]


def reached(functions, classes, operators):
    """These operators and the properties, and all functions that they call."""
    left = [
        place for rows in functions.values() for place in rows
        if place[1].name in operators or is_property(place[1])
    ]
    found = []
    while left:
        place = left.pop()
        if place in found:
            continue
        found.append(place)
        for call in calls(place[1]):
            names = ["__init__"] if called(call) in classes else [called(call)]
            left += [other for name in names for other in functions.get(name, [])]
    return found


def is_property(node):
    return any(isinstance(one, ast.Name) and one.id == "property" for one in node.decorator_list)


def calls(node):
    return [part for part in ast.walk(node) if isinstance(part, ast.Call)]


def called(call):
    return call.func.id if isinstance(call.func, ast.Name) else getattr(call.func, "attr", None)


def changes(node, classes):
    own = created(node, classes)
    allowed = {"self"} if node.name == "__init__" else set()
    for part in ast.walk(node):
        targets = part.targets if isinstance(part, (ast.Assign, ast.Delete)) else []
        targets = [part.target] if isinstance(part, ast.AugAssign) else targets
        for target in targets:
            if isinstance(target, (ast.Attribute, ast.Subscript)) and base(target) not in own | allowed:
                yield part.lineno, "changes what it did not create"
        if isinstance(part, ast.AugAssign) and not is_plain(part):
            yield part.lineno, "+= and the like of what may be no number"
        if isinstance(part, ast.Call):
            yield from call_faults(part, node, own)


def call_faults(call, node, own):
    name = called(call)
    if isinstance(call.func, ast.Attribute):
        if name in CHANGES and base(call.func) not in own:
            yield call.lineno, "changes what it did not create"
    elif not isinstance(call.func, ast.Name):
        yield call.lineno, "calls what it holds"
    elif name in {one.arg for one in ast.walk(node.args) if isinstance(one, ast.arg)} - {"cls"}:
        yield call.lineno, "calls what it is passed"


def base(node):
    """The name off which a target or a method is taken; only one step may lie between."""
    return node.value.id if isinstance(node.value, ast.Name) else None


def is_plain(part):
    return isinstance(part.target, ast.Name) and isinstance(part.value, ast.Constant)


def created(node, classes):
    """The local variables that are only ever assigned what is new."""
    assigned = {}
    for part in ast.walk(node):
        if isinstance(part, ast.Assign):
            for target in part.targets:
                if isinstance(target, ast.Name):
                    assigned.setdefault(target.id, []).append(is_new(part.value, classes))
    passed = {one.arg for one in ast.walk(node.args) if isinstance(one, ast.arg)}
    return {name for name, news in assigned.items() if all(news)} - passed


def is_new(value, classes):
    if isinstance(value, ast.BinOp):
        return is_new(value.left, classes) or is_new(value.right, classes)
    if isinstance(value, ast.Call):
        return isinstance(value.func, ast.Name) and value.func.id in classes | set(MAKERS)
    return isinstance(value, NEW)
