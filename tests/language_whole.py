"""What a script can see of the rules that speak of the whole package: whole_faults(trees) lists it.

As in language.py, some checks refuse more than their rule does, because the package needs no more today
(sets that are stored, calls in a finally).
"""

import ast

ON_THE_SPOT = {"list", "tuple", "dict", "sorted", "sum", "any", "all", "enumerate", "zip", "min", "max"}
BUILT_IN_METHODS = {name for kind in (str, bytes, int, list, dict, set) for name in dir(kind)}
NO_ATTRIBUTES = set("items keys values pop update append clear extend insert remove reverse setdefault sort args encode "
                    "decode hex fromhex format format_map mro".split())


def whole_faults(trees):
    """The faults of a package, given as a dict of trees by file names: tuples (file, line, rule)."""
    generators = {node.name for tree in trees.values() for node in functions_of(tree) if is_generator(node)}
    methods, attributes = method_names(trees), attribute_names(trees)
    for name, tree in trees.items():
        for check in (finally_faults, set_faults, underscore_faults, operator_faults, catching_faults):
            yield from ((name, line, rule) for line, rule in check(tree))
        yield from ((name, line, "L23") for line in generator_faults(tree, generators))
        yield from ((name, node.lineno, "L18") for node in attributes_of(tree) if node.attr in methods)
        yield from ((name, node.lineno, "L26") for node in attributes_of(tree) if node.attr in NO_ATTRIBUTES)
        for node in ast.walk(tree):
            if isinstance(node, ast.Attribute) and isinstance(node.ctx, ast.Load):
                if node.attr not in methods | attributes | BUILT_IN_METHODS:
                    yield name, node.lineno, "L18"
    names = [node.name for tree in trees.values() for node in functions_of(tree)]
    for name in generators:
        if names.count(name) > 1 or name in BUILT_IN_METHODS:
            yield "", 0, "L23"


def functions_of(tree):
    return [node for node in ast.walk(tree) if isinstance(node, ast.FunctionDef)]


def classes_of(tree):
    return [node for node in ast.walk(tree) if isinstance(node, ast.ClassDef)]


def method_names(trees):
    """The names of methods, properties and class values."""
    found = set()
    for row in [row for tree in trees.values() for node in classes_of(tree) for row in node.body]:
        if isinstance(row, ast.FunctionDef):
            found.add(row.name)
        if isinstance(row, ast.Assign):
            found.add(row.targets[0].id)
    return found


def attributes_of(tree):
    """The places where an attribute is assigned."""
    return [node for node in ast.walk(tree) if isinstance(node, ast.Attribute) and isinstance(node.ctx, ast.Store)]


def attribute_names(trees):
    return {node.attr for tree in trees.values() for node in attributes_of(tree)}


def is_generator(function):
    return any(isinstance(node, (ast.Yield, ast.YieldFrom)) for node in ast.walk(function))


def generator_faults(tree, generators):
    """The lines where a generator is badly made, or called elsewhere than where it is iterated at once."""
    for node in functions_of(tree):
        if is_generator(node):
            if node.decorator_list or node.name.startswith("__"):
                yield node.lineno
            for block in ast.walk(node):
                if isinstance(block, (ast.Try, ast.With)) and is_generator(block):
                    yield block.lineno
    spots = set()
    for node in ast.walk(tree):
        if isinstance(node, (ast.For, ast.comprehension)):
            spots.add(node.iter)
        if isinstance(node, ast.YieldFrom):
            spots.add(node.value)
        if isinstance(node, ast.Call) and isinstance(node.func, ast.Name) and node.func.id in ON_THE_SPOT:
            spots.update(node.args[:1])
    called = {node.func for node in spots if isinstance(node, ast.Call)}
    for node in ast.walk(tree):
        if isinstance(node, (ast.Name, ast.Attribute)) and node not in called:
            if (node.id if isinstance(node, ast.Name) else node.attr) in generators:
                yield node.lineno


def finally_faults(tree):
    for node in ast.walk(tree):
        if isinstance(node, ast.Try):
            for row in node.finalbody:
                if not isinstance(row, (ast.Assign, ast.Pass)) or any(
                        isinstance(each, (ast.Call, ast.Subscript, ast.BinOp)) for each in ast.walk(row)):
                    yield row.lineno, "L6"


def set_faults(tree):
    """Sets that are not beside "in", "==" or "!=", nor directly in sorted(..) or len(..)."""
    good = set()
    for node in ast.walk(tree):
        if isinstance(node, ast.Compare):
            good.update([node.left, *node.comparators])
        if isinstance(node, ast.Call) and isinstance(node.func, ast.Name) and node.func.id in ("sorted", "len"):
            good.update(node.args)
    for node in ast.walk(tree):
        is_call = isinstance(node, ast.Call) and isinstance(node.func, ast.Name) and node.func.id in ("set", "frozenset")
        if (is_call or isinstance(node, (ast.Set, ast.SetComp))) and node not in good:
            yield node.lineno, "L24"


def underscore_faults(tree):
    for node in ast.walk(tree):
        if isinstance(node, ast.Name) and node.id == "_" and isinstance(node.ctx, ast.Load):
            yield node.lineno, "L12"


def operator_faults(tree):
    """Operators and properties that change an attribute, an item or what they hold."""
    for node in [row for each in classes_of(tree) for row in each.body if isinstance(row, ast.FunctionDef)]:
        is_property = any(isinstance(each, ast.Name) and each.id == "property" for each in node.decorator_list)
        is_operator = node.name.startswith("__") and node.name not in ("__init__", "__call__", "__enter__", "__exit__")
        if is_property or is_operator:
            for each in ast.walk(node):
                if isinstance(each, (ast.Attribute, ast.Subscript)) and not isinstance(each.ctx, ast.Load):
                    yield each.lineno, "L5"


def catching_faults(tree):
    """Caught errors that are asked for more than their own fields."""
    for node in ast.walk(tree):
        if isinstance(node, ast.ExceptHandler) and node.name:
            for each in ast.walk(node):
                if isinstance(each, ast.Attribute) and each.attr in ("args", "with_traceback", "add_note"):
                    yield each.lineno, "L19"
