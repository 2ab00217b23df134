"""What a script can see of the rules L1 to L28 of the language: faults(sources) lists what it sees.

Some checks refuse more than their rule does, because the package needs no more today
(annotations, setters, default values that are worked out, errors of Python's own that are caught).
"""

import ast
import builtins
import io
import re
import tokenize
import warnings

from language_whole import whole_faults

PACKAGE = "urlplaces"
LIBRARY = {
    "heapq": ("heappush", "heappop", "heapify", "heapreplace", "heappushpop"),
    "math": ("gcd", "lcm", "isqrt", "comb", "perm", "factorial"),
    "itertools": ("product", "combinations", "permutations", "chain", "accumulate", "pairwise", "islice",
                  "zip_longest"),
    "collections": ("defaultdict", "deque"),
}
BUILTINS = set(
    "len range enumerate zip min max sum abs sorted reversed int str bool list tuple dict set isinstance ord repr any "
    "all divmod pow map iter next Exception ValueError TypeError KeyError IndexError LookupError ZeroDivisionError "
    "ArithmeticError OverflowError RuntimeError NotImplementedError AttributeError StopIteration NotImplemented "
    "property staticmethod classmethod super".split())
ERRORS = {name for name in BUILTINS if name.endswith(("Error", "Exception"))} - {"AttributeError"}
CAUGHT = {"KeyError", "ZeroDivisionError", "StopIteration"}
METHODS = set(
    "append clear copy count endswith extend find get index insert isalnum isalpha isdigit islower isspace isupper "
    "items join keys ljust lower lstrip partition pop remove replace reverse rfind rjust rpartition rsplit rstrip "
    "setdefault split splitlines startswith strip update upper values zfill bit_length title capitalize swapcase "
    "casefold center expandtabs removeprefix removesuffix rindex isascii isdecimal isnumeric istitle isidentifier "
    "isprintable add discard sort".split())
MODIFYING = set("append clear extend insert pop remove reverse setdefault update add discard sort".split())
OPERATORS = "add sub mul floordiv mod pow and or xor lshift rshift".split()
DOUBLE = {f"__{name}__" for name in (
    "init eq repr str len enter exit call iter lt le gt ge ne neg pos invert abs bool contains getitem setitem".split()
    + OPERATORS + ["r" + name for name in OPERATORS if name != "pow"] + ["i" + name for name in OPERATORS])}
NO_NAMES = set(
    "mro elements open input law version_info with_traceback add_note register attrgetter breakpoint builtins compile "
    "delattr dir eval exec exit gc globals help importlib locals methodcaller os vars sys type chr".split())
NO_WORDS = re.compile(
    r"\b(type|typing|typing_extensions|enum|Enum|IntEnum|StrEnum|Flag|IntFlag|Generic|Protocol|ABC|ABCMeta|namedtuple|"
    r"NamedTuple|TypedDict|TYPE_CHECKING|abstractmethod|_wall|_WallAttr)\b|dataclass|overload|contextmanager")
NO_FILES = set("test tests testing site conftest sitecustomize usercustomize".split()) | set(dir(builtins))
STATEMENTS = (
    ast.FunctionDef, ast.ClassDef, ast.Return, ast.Delete, ast.Assign, ast.AugAssign, ast.For, ast.While, ast.If,
    ast.With, ast.Match, ast.Raise, ast.Try, ast.Assert, ast.ImportFrom, ast.Nonlocal, ast.Expr, ast.Pass, ast.Break,
    ast.Continue)
ON_THE_SPOT = {"list", "tuple", "dict", "sorted", "sum", "any", "all", "enumerate", "zip", "min", "max"}
ITERABLES = {"zip", "enumerate", "reversed", "map"}
KEYWORDS = {"sorted": {"key", "reverse"}, "min": {"key", "default"}, "max": {"key", "default"}, "sum": {"start"},
            "enumerate": {"start"}, "zip": {"strict"}}


def faults(sources):
    """The faults of a package, given as a dict of sources by file names: tuples (file, line, rule)."""
    found = []
    trees = {}
    for name, source in sources.items():
        trees[name], warned = tree_and_warnings(source)
        found.extend((name, line, "L27") for line in warned)
        found.extend((name, line, rule) for line, rule in text_faults(name, source, trees[name]))
    own = own_names(trees.values())
    for name, tree in trees.items():
        for check in (statement_faults, module_faults, name_faults, class_faults, error_faults, expression_faults,
                      change_faults):
            found.extend((name, line, rule) for line, rule in check(tree))
        found.extend((name, line, rule) for line, rule in call_faults(tree, own))
    found.extend(import_faults(trees))
    found.extend(whole_faults(trees))
    if "__init__.py" not in sources:
        found.append(("__init__.py", 0, "L14"))
    return sorted(set(found))


def own_names(trees):
    nodes = [node for tree in trees for node in ast.walk(tree)]
    return {node.name for node in nodes if isinstance(node, (ast.FunctionDef, ast.ClassDef))}


def tree_and_warnings(source):
    """The tree of a source, and the lines for which Python gives a warning."""
    with warnings.catch_warnings(record=True) as told:
        warnings.simplefilter("always")
        tree = ast.parse(source)
        compile(tree, "source", "exec")
    return tree, [warning.lineno for warning in told]


def text_faults(name, source, tree):
    stem = name.removesuffix(".py")
    if not re.fullmatch(r"__init__|[a-z][a-z0-9_]*", stem) or stem in NO_FILES or re.match("test_|law_", stem):
        yield 0, "L14"
    lines = source.split("\n")
    if len(lines) > 399:
        yield 399, "L10"
    for number, line in enumerate(lines, 1):
        if len(line) > 120 or "\t" in line:
            yield number, "L10"
        if re.search("[^ -~]", line):
            yield number, "L14"
    yield from token_faults(source, tree)


def token_faults(source, tree):
    docstrings = {node.lineno for node in ast.walk(tree)
                  if isinstance(node, ast.Expr) and isinstance(node.value, ast.Constant)}
    for token in tokenize.generate_tokens(io.StringIO(source).readline):
        if token.type == tokenize.NAME and NO_WORDS.search(token.string):
            yield token.start[0], "L17"
        if token.type == tokenize.STRING:
            if re.search(r"\\[^nt\\'\"]", token.string.replace("\\\\", "")):
                yield token.start[0], "L27"
            if token.start[0] not in docstrings:
                yield from string_faults(token.string, token.start[0])


def string_faults(text, line):
    inner = text.strip("rRbBfFuU").strip("'\"")
    if "%" in inner or inner.endswith(("._", ".__")) or re.fullmatch("__.*__", inner):
        yield line, "L27"
    if re.search("dataclass|typing_extensions|TYPE_CHECKING", inner):
        yield line, "L17"


def statement_faults(tree):
    for node in ast.walk(tree):
        if isinstance(node, ast.stmt) and not isinstance(node, STATEMENTS):
            yield node.lineno, "L21" if isinstance(node, ast.AnnAssign) else "L6"
        if isinstance(node, ast.FunctionDef):
            if node.end_lineno - node.lineno + 1 > 40:
                yield node.lineno, "L10"
            if node.returns or any(each.annotation for each in all_arguments(node)):
                yield node.lineno, "L21"
            for value in node.args.defaults + [each for each in node.args.kw_defaults if each]:
                if not is_plain(value) or isinstance(value, (ast.List, ast.Dict)):
                    yield node.lineno, "L4"


def all_arguments(node):
    given = node.args
    stars = [each for each in (given.vararg, given.kwarg) if each]
    return given.posonlyargs + given.args + given.kwonlyargs + stars


def is_plain(value, functions=()):
    """Whether a value is written out; in lists, tuples and dicts these functions may stand too."""
    if isinstance(value, (ast.Tuple, ast.List)):
        return all(is_plain(each, functions) or is_one_of(each, functions) for each in value.elts)
    if isinstance(value, ast.Dict):
        rows = value.keys + value.values
        return all(is_plain(each, functions) or is_one_of(each, functions) for each in rows)
    if isinstance(value, ast.UnaryOp):
        return isinstance(value.op, ast.USub) and is_plain(value.operand)
    return isinstance(value, ast.Constant)


def is_one_of(value, functions):
    return isinstance(value, ast.Name) and value.id in functions


def module_faults(tree):
    bound = []
    functions = []
    for place, node in enumerate(tree.body):
        if isinstance(node, ast.ImportFrom):
            bound.extend(alias.asname or alias.name for alias in node.names)
        elif isinstance(node, (ast.FunctionDef, ast.ClassDef)):
            bound.append(node.name)
            if isinstance(node, ast.FunctionDef):
                functions.append(node.name)
                if node.decorator_list:
                    yield node.lineno, "L4"
        elif isinstance(node, ast.Assign) and len(node.targets) == 1 and isinstance(node.targets[0], ast.Name):
            bound.append(node.targets[0].id)
            if not is_plain(node.value, functions):
                yield node.lineno, "L3"
            if any(isinstance(each, (ast.List, ast.Dict)) for each in list(ast.walk(node.value))[1:]):
                yield node.lineno, "L15"
        elif not (place == 0 and isinstance(node, ast.Expr) and isinstance(node.value, ast.Constant)):
            yield node.lineno, "L3"
    for name in set(bound):
        if bound.count(name) > 1:
            yield 0, "L15"


def name_faults(tree):
    outer = {each.asname or each.name for node in ast.walk(tree) if isinstance(node, ast.ImportFrom)
             for each in node.names} | {node.name for node in ast.walk(tree) if isinstance(node, ast.ClassDef)}
    for line, name, local in bound_names(tree):
        if name in NO_NAMES:
            yield line, "L17"
        if name in dir(builtins) or local and name in outer:
            yield line, "L15"
        if name.startswith("__") and name not in DOUBLE or not name.isascii():
            yield line, "L12"
    for node in ast.walk(tree):
        if isinstance(node, ast.Name) and node.id in dir(builtins) and node.id not in BUILTINS:
            yield node.lineno, "L8"
        if isinstance(node, ast.Attribute) and node.attr.startswith("__") and node.attr != "__init__":
            yield node.lineno, "L8"


def bound_names(tree):
    """The names that are bound: line, name, and whether it is a parameter or a variable."""
    methods = [row for node in ast.walk(tree) if isinstance(node, ast.ClassDef) for row in node.body]
    for node in ast.walk(tree):
        if isinstance(node, ast.Name) and not isinstance(node.ctx, ast.Load):
            yield node.lineno, node.id, True
        if isinstance(node, ast.arg):
            yield node.lineno, node.arg, True
        if isinstance(node, ast.ExceptHandler) and node.name:
            yield node.lineno, node.name, True
        if isinstance(node, (ast.FunctionDef, ast.ClassDef)) and node not in methods:
            yield node.lineno, node.name, False
        if isinstance(node, ast.FunctionDef) and node in methods and node.name.startswith("__"):
            yield node.lineno, node.name, False


def class_faults(tree):
    classes = [node for node in ast.walk(tree) if isinstance(node, ast.ClassDef)]
    for node in classes:
        if node not in tree.body:
            yield node.lineno, "L15"
        if node.decorator_list or node.keywords:
            yield node.lineno, "L5"
        seen = []
        for row in node.body:
            if isinstance(row, ast.FunctionDef):
                seen.append(row.name)
                yield from method_faults(row)
            elif isinstance(row, ast.Assign):
                if not is_plain(row.value):
                    yield row.lineno, "L5"
            elif not (isinstance(row, ast.Expr) and isinstance(row.value, ast.Constant)):
                yield row.lineno, "L5"
        if len(seen) != len(set(seen)):
            yield node.lineno, "L18"


def method_faults(node):
    for each in node.decorator_list:
        if not (isinstance(each, ast.Name) and each.id in ("property", "staticmethod", "classmethod")):
            yield node.lineno, "L5"
    returns = [each for each in ast.walk(node) if isinstance(each, ast.Return)]
    if node.name == "__init__" and returns:
        yield node.lineno, "L28"
    if node.name == "__len__" and not all(is_call_of(each.value, "len") for each in returns):
        yield node.lineno, "L28"
    if node.name in ("__len__", "__str__", "__repr__") and not isinstance(node.body[-1], ast.Return):
        yield node.lineno, "L28"
    if node.name == "__eq__" and "isinstance(other, " not in ast.unparse(node.body[0]):
        yield node.lineno, "L28"


def is_call_of(node, name):
    return isinstance(node, ast.Call) and isinstance(node.func, ast.Name) and node.func.id == name


def error_faults(tree):
    for node in ast.walk(tree):
        if isinstance(node, ast.ClassDef):
            for base in node.bases:
                if base.id in dir(builtins) and base.id not in ERRORS:
                    yield node.lineno, "L18"
        if isinstance(node, ast.ExceptHandler):
            caught = node.type.elts if isinstance(node.type, ast.Tuple) else [node.type]
            for each in caught:
                if not isinstance(each, ast.Name) or each.id in dir(builtins) and each.id not in CAUGHT:
                    yield node.lineno, "L19"
        if isinstance(node, ast.Raise) and node.exc and not isinstance(node.exc, ast.Call):
            yield node.lineno, "L19"


def expression_faults(tree):
    for node in ast.walk(tree):
        if isinstance(node, ast.Constant) and isinstance(node.value, (float, complex)):
            yield node.lineno, "L7"
        if isinstance(node, (ast.BinOp, ast.AugAssign)) and isinstance(node.op, (ast.Div, ast.MatMult)):
            yield node.lineno, "L7"
        if isinstance(node, ast.BinOp) and isinstance(node.op, ast.Pow):
            if not isinstance(node.right, ast.Constant):
                yield node.lineno, "L27"
        if isinstance(node, ast.Compare):
            for sign, value in zip(node.ops, node.comparators):
                if isinstance(sign, (ast.Is, ast.IsNot)):
                    if not (isinstance(value, ast.Constant) and value.value in (None, True, False)):
                        yield node.lineno, "L20"
        if isinstance(node, (ast.For, ast.comprehension)) and is_set(node.iter):
            yield node.iter.lineno, "L24"


def change_faults(tree):
    """Functions that are called straight from a table, tables and looped lists that are modified."""
    tables = {each.id for node in tree.body if isinstance(node, ast.Assign) for each in node.targets}
    tables |= {each.name for node in tree.body if isinstance(node, ast.ImportFrom) for each in node.names}
    for node in ast.walk(tree):
        if isinstance(node, ast.Call) and isinstance(node.func, ast.Subscript):
            yield node.lineno, "L3"
        if isinstance(node, ast.For) and isinstance(node.iter, ast.Name):
            for row in node.body:
                yield from ((line, "L23") for line, name in modified_names(row) if name == node.iter.id)
    yield from ((line, "L15") for line, name in modified_names(tree) if name in tables)


def modified_names(tree):
    """The names whose items are assigned or deleted, or of which a method is called that modifies them."""
    for node in ast.walk(tree):
        if isinstance(node, ast.Subscript) and isinstance(node.value, ast.Name) and not isinstance(node.ctx, ast.Load):
            yield node.lineno, node.value.id
        if isinstance(node, ast.Call) and isinstance(node.func, ast.Attribute):
            if isinstance(node.func.value, ast.Name) and node.func.attr in MODIFYING:
                yield node.lineno, node.func.value.id


def is_set(node):
    return isinstance(node, (ast.Set, ast.SetComp)) or is_call_of(node, "set")


def call_faults(tree, own):
    spots = set()
    for node in ast.walk(tree):
        if isinstance(node, (ast.For, ast.comprehension)):
            spots.add(node.iter)
        if isinstance(node, ast.Call) and node.args:
            if isinstance(node.func, ast.Name) and node.func.id in ON_THE_SPOT:
                spots.update(node.args)
            if isinstance(node.func, ast.Attribute) and isinstance(node.func.value, ast.Constant):
                spots.update(node.args)
    for node in ast.walk(tree):
        if isinstance(node, ast.Call) and isinstance(node.func, ast.Attribute):
            if node.func.attr not in METHODS and node.func.attr not in own and node.func.attr != "__init__":
                yield node.lineno, "L25"
            if node.func.attr in METHODS and node.keywords:
                yield node.lineno, "L25"
        if isinstance(node, ast.Call) and isinstance(node.func, ast.Name) and node.func.id in BUILTINS:
            if {each.arg for each in node.keywords} - KEYWORDS.get(node.func.id, set()):
                yield node.lineno, "L22"
            if node.func.id in ITERABLES and node not in spots:
                yield node.lineno, "L23"
            # Objects with an __eq__ are in the package, so these take lists.
            if node.func.id in ("any", "all", "min", "max", "sum", "sorted"):
                if node.args and isinstance(node.args[0], ast.GeneratorExp):
                    yield node.lineno, "L7"


def import_faults(trees):
    """Imports from elsewhere, of names that are not defined there, and in circles."""
    edges = {name: [] for name in trees}
    for name, tree in trees.items():
        for node in ast.walk(tree):
            if isinstance(node, ast.Import):
                yield name, node.lineno, "L2"
            if isinstance(node, ast.ImportFrom):
                source = (node.module or "").removeprefix(PACKAGE + ".") + ".py"
                wanted = {each.name for each in node.names}
                if node not in tree.body or node.level or any(each.asname for each in node.names):
                    yield name, node.lineno, "L2"
                elif node.module in LIBRARY:
                    if wanted - set(LIBRARY[node.module]):
                        yield name, node.lineno, "L2"
                elif not node.module.startswith(PACKAGE + ".") or source not in trees:
                    yield name, node.lineno, "L2"
                else:
                    edges[name].append(source)
                    if wanted - defined_names(trees[source]):
                        yield name, node.lineno, "L16"
    for name in trees:
        if name in reached(edges, name):
            yield name, 0, "L16"


def defined_names(tree):
    names = {node.name for node in tree.body if isinstance(node, (ast.FunctionDef, ast.ClassDef))}
    return names | {each.id for node in tree.body if isinstance(node, ast.Assign) for each in node.targets}


def reached(edges, start):
    found = []
    waiting = list(edges[start])
    while waiting:
        name = waiting.pop()
        if name not in found:
            found.append(name)
            waiting.extend(edges[name])
    return found
