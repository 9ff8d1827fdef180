"""Checks many of the rules L1 to L28 for the files of a package.

`faults(files)` takes a dict of file names and sources and gives the list of the
faults found, each as `name:line: rule what`.
"""

import ast
import builtins
import re

PACKAGE = "squareloops"
STATEMENTS = (
    ast.FunctionDef, ast.ClassDef, ast.Return, ast.Delete, ast.Assign, ast.AugAssign, ast.AnnAssign,
    ast.For, ast.While, ast.If, ast.With, ast.Match, ast.Raise, ast.Try, ast.Assert, ast.ImportFrom,
    ast.Nonlocal, ast.Expr, ast.Pass, ast.Break, ast.Continue,
)
EXPRESSIONS = (
    ast.BoolOp, ast.NamedExpr, ast.BinOp, ast.UnaryOp, ast.Lambda, ast.IfExp, ast.Dict, ast.Set,
    ast.ListComp, ast.SetComp, ast.DictComp, ast.GeneratorExp, ast.Yield, ast.YieldFrom, ast.Compare,
    ast.Call, ast.FormattedValue, ast.JoinedStr, ast.Constant, ast.Attribute, ast.Subscript,
    ast.Starred, ast.Name, ast.List, ast.Tuple, ast.Slice,
)
LIBRARY = {
    "heapq": "heappush heappop heapify heapreplace heappushpop", "math": "gcd lcm isqrt comb perm factorial",
    "itertools": "product combinations permutations chain accumulate pairwise islice zip_longest",
    "collections": "defaultdict", "__future__": "annotations",
}
BUILTINS = set((
    "len range enumerate zip min max sum abs sorted reversed int str bool bytes list tuple dict set"
    " frozenset isinstance ord repr any all divmod pow getattr hasattr setattr Exception ValueError"
    " TypeError KeyError IndexError LookupError ZeroDivisionError ArithmeticError OverflowError"
    " RuntimeError NotImplementedError AttributeError StopIteration NotImplemented iter next map super"
    " property staticmethod classmethod object True False None"
).split())
ERRORS = {name for name in BUILTINS if isinstance(getattr(builtins, name, None), type)
          and issubclass(getattr(builtins, name), Exception)}
CAUGHT = {"KeyError", "ZeroDivisionError", "StopIteration", "ValueError", "LookupError", "IndexError"}
METHODS = set((
    "append clear copy count endswith extend find get index insert isalnum isalpha isdigit islower isspace"
    " isupper items join keys ljust lower lstrip partition pop remove replace reverse rfind rjust rpartition"
    " rsplit rstrip setdefault split splitlines startswith strip update upper values zfill bit_length title"
    " capitalize swapcase casefold center expandtabs removeprefix removesuffix rindex isascii isdecimal"
    " isnumeric istitle isidentifier isprintable encode decode hex translate maketrans sort format add discard"
    " from_bytes from_iterable"
).split())
DUNDERS = {f"__{name}__" for name in (
    "init eq repr str len enter exit call iter lt le gt ge ne add sub mul floordiv mod pow and or xor lshift"
    " rshift radd rsub rmul rfloordiv rmod rand ror rxor rlshift rrshift iadd isub imul ifloordiv imod ipow"
    " iand ior ixor ilshift irshift neg pos invert abs bool contains getitem setitem"
).split()}
ITERATED = ("zip", "enumerate", "reversed", "map", "range")
VIEWS = ("items", "keys", "values")
ITERATING = "list tuple dict sorted sum min max any all enumerate zip reversed join".split()
NEVER = set("register mro elements open input law version_info with_traceback add_note".split())
NO_NAMES = set((
    "attrgetter breakpoint builtins compile copyright credits delattr dir eval exec exit gc globals help id"
    " importlib license locals methodcaller os quit type vars sys"
).split())
NO_WORDS = (
    r"\b(?:type|typing|typing_extensions|enum|Enum|IntEnum|StrEnum|Flag|IntFlag|Generic|Protocol|ABC|ABCMeta"
    r"|namedtuple|NamedTuple|TypedDict|TYPE_CHECKING|abstractmethod|_wall|_WallAttr)\b"
    r"|dataclass|overload|contextmanager"
)
FILE_WORDS = r"law_.*|tests?|testing|test_.*|site|conftest|sitecustomize|usercustomize"


def faults(files):
    found = []
    trees = {name: ast.parse(source) for name, source in files.items()}
    if "__init__.py" not in files:
        found.append("__init__.py:0: L14 is missing")
    for name, source in files.items():
        for line, text in file_faults(name, source, trees):
            found.append(f"{name}:{line}: {text}")
    found += [f"{name}:0: L16 imports itself through others" for name in files if in_a_ring(name, trees)]
    return found


def file_faults(name, source, trees):
    tree = trees[name]
    for node in ast.walk(tree):
        for child in ast.iter_child_nodes(node):
            child.above = node
    yield from name_faults(name)
    yield from line_faults(source)
    yield from module_faults(tree)
    yield from import_faults(tree, trees)
    yield from binding_faults(tree)
    own = own_names(trees)
    for node in ast.walk(tree):
        for text in node_faults(node, own):
            yield getattr(node, "lineno", 0), text


def name_faults(name):
    stem = name.removesuffix(".py")
    if not name.endswith(".py") or not re.fullmatch("[a-z0-9_]+", stem):
        yield 0, "L1 no plain name of a file"
    elif re.fullmatch(FILE_WORDS, stem) or stem in vars(builtins):
        yield 0, "L14 a name that no file may have"


def line_faults(source):
    lines = source.split("\n")
    if len(lines) > 400:
        yield 400, "L10 more than 399 lines"
    for number, line in enumerate(lines, 1):
        if len(line) > 120 or "\t" in line:
            yield number, "L10 a long line or a tab"
        if not re.fullmatch("[ -~]*", line):
            yield number, "L14 a character that is not plain"


def module_faults(tree):
    bound = []
    for node in tree.body:
        if isinstance(node, (ast.FunctionDef, ast.ClassDef)):
            bound.append(node.name)
        elif isinstance(node, ast.ImportFrom):
            bound += [alias.asname or alias.name for alias in node.names]
        elif isinstance(node, ast.Assign) and len(node.targets) == 1 and isinstance(node.targets[0], ast.Name):
            bound.append(node.targets[0].id)
            if any(isinstance(part, (ast.Call, ast.ListComp, ast.Set, ast.Lambda)) for part in ast.walk(node)):
                yield node.lineno, "L3 no plain value"
        elif not (isinstance(node, ast.Expr) and isinstance(node.value, ast.Constant)):
            yield node.lineno, "L3 not allowed at module level"
    for name in sorted(set(bound)):
        if bound.count(name) > 1:
            yield 0, f"L15 {name} is bound twice"
        if hasattr(builtins, name):
            yield 0, f"L15 {name} is the name of a builtin"


def import_faults(tree, trees):
    for node in ast.walk(tree):
        if isinstance(node, ast.Import):
            yield node.lineno, "L16 not from .. import .."
        if not isinstance(node, ast.ImportFrom):
            continue
        names = [alias.name for alias in node.names]
        file = imported_file(node)
        if node.level or "*" in names:
            yield node.lineno, "L2 not by full names"
        elif file:
            if file not in trees or set(names) - set(defined(trees[file])):
                yield node.lineno, "L16 not the file that defines the name"
        elif set(names) - set(LIBRARY.get(node.module, "").split()):
            yield node.lineno, "L2 from outside of the package"


def binding_faults(tree):
    taken = {node.name for node in tree.body if isinstance(node, ast.ClassDef)}
    for node in tree.body:
        if isinstance(node, ast.ImportFrom):
            taken |= {alias.asname or alias.name for alias in node.names}
    for node in ast.walk(tree):
        name = node.arg if isinstance(node, ast.arg) else None
        if isinstance(node, ast.Name) and isinstance(node.ctx, ast.Store):
            name = node.id
        if name in taken:
            yield node.lineno, f"L15 {name} is a class or an import"


def imported_file(node):
    top, _, rest = node.module.partition(".") if node.module else ("", "", "")
    return f"{rest or '__init__'}.py" if top == PACKAGE else None


def defined(tree):
    for node in tree.body:
        if isinstance(node, (ast.FunctionDef, ast.ClassDef)):
            yield node.name
        elif isinstance(node, ast.Assign):
            yield from [target.id for target in node.targets if isinstance(target, ast.Name)]


def in_a_ring(start, trees):
    seen, left = set(), [start]
    while left:
        tree = trees.get(left.pop())
        for node in ast.walk(tree) if tree else ():
            file = imported_file(node) if isinstance(node, ast.ImportFrom) else None
            if file == start:
                return True
            if file and file not in seen:
                seen.add(file)
                left.append(file)
    return False


def own_names(trees):
    nodes = [node for tree in trees.values() for node in ast.walk(tree)]
    return {node.name for node in nodes if isinstance(node, (ast.FunctionDef, ast.ClassDef))}


def node_faults(node, own):
    if isinstance(node, ast.stmt) and not isinstance(node, STATEMENTS):
        yield "L6 not an allowed statement"
    if isinstance(node, ast.expr) and not isinstance(node, EXPRESSIONS):
        yield "L7 not an allowed expression"
    if isinstance(node, ast.FunctionDef):
        yield from function_faults(node)
    if isinstance(node, ast.ClassDef) and (node.decorator_list or node.keywords or not at_module_level(node)):
        yield "L5 a class with a decorator or keywords, or within something"
    if isinstance(node, (ast.Div, ast.MatMult)):
        yield "L7 not an allowed operator"
    if isinstance(node, ast.Constant):
        yield from constant_faults(node)
    if isinstance(node, (ast.Name, ast.arg, ast.Attribute)):
        yield from word_faults(node)
    if isinstance(node, ast.Compare):
        yield from comparison_faults(node)
    if isinstance(node, ast.Call):
        yield from call_faults(node, own)
    if isinstance(node, (ast.Set, ast.SetComp)) and not set_stands_right(node):
        yield "L24 a set where none may stand"
    if isinstance(node, ast.ExceptHandler):
        yield from handler_faults(node)
    if isinstance(node, ast.Raise) and node.exc is not None and not is_new_error(node.exc):
        yield "L19 raises what is not made on the spot"


def at_module_level(node):
    return isinstance(node.above, ast.Module)


def function_faults(node):
    if node.end_lineno - node.lineno >= 40:
        yield "L10 more than 40 lines"
    in_class = isinstance(node.above, ast.ClassDef)
    for decorator in node.decorator_list:
        plain = isinstance(decorator, ast.Name) and decorator.id in ("property", "classmethod", "staticmethod")
        setter = isinstance(decorator, ast.Attribute) and decorator.attr == "setter"
        if not in_class or not (plain or setter):
            yield "L4 a decorator"
    if node.name.startswith("__") and (node.name not in DUNDERS or not in_class):
        yield "L5 a double-underscore method that is not allowed"
    if not in_class and hasattr(builtins, node.name):
        yield "L15 the name of a builtin"
    for default in node.args.defaults + [worth for worth in node.args.kw_defaults if worth]:
        if isinstance(default, (ast.List, ast.Dict, ast.Set, ast.Call)):
            yield "L4 a default that is not plain"
    returns = [part.value for part in ast.walk(node) if isinstance(part, ast.Return)]
    if node.name == "__len__" and not all(is_call_of("len", worth) or is_number(worth) for worth in returns):
        yield "L28 a length that is not len(..)"
    if node.name == "__init__" and returns:
        yield "L28 __init__ returns"
    if node.name in ("__len__", "__repr__", "__str__") and not isinstance(node.body[-1], ast.Return):
        yield "L28 no return at the end"


def is_call_of(name, node):
    return isinstance(node, ast.Call) and isinstance(node.func, ast.Name) and node.func.id == name


def is_number(node):
    return isinstance(node, ast.Constant) and isinstance(node.value, int)


def constant_faults(node):
    value = node.value
    if isinstance(value, (float, complex)) or value is ...:
        yield "L7 a float"
    if isinstance(value, str) and not is_docstring(node):
        if "%" in value or re.search(r"\._{1,2}$", value) or re.fullmatch("__.*__", value):
            yield "L27 a string that may not stand"
        if re.search(NO_WORDS, value):
            yield "L17 a word that may not stand"


def is_docstring(node):
    return isinstance(node.above, ast.Expr)


def word_faults(node):
    word = node.id if isinstance(node, ast.Name) else node.arg if isinstance(node, ast.arg) else node.attr
    if not re.fullmatch("_|_?[A-Za-z][A-Za-z0-9_]*|__class__|__name__|__init__", word):
        yield f"L12 {word}"
    if word in NEVER or re.match("(?:f|tb|co|gi|cr|ag)_", word) or re.search(NO_WORDS, word):
        yield f"L17 {word}"
    if isinstance(node, ast.Attribute):
        return
    if word in NO_NAMES or word.startswith("_wall"):
        yield f"L17 {word}"
    reads = isinstance(node, ast.Name) and isinstance(node.ctx, ast.Load)
    if hasattr(builtins, word) and not (reads and word in BUILTINS):
        yield f"L8 {word}"
    if reads and word == "_":
        yield "L12 _ is read"


def comparison_faults(node):
    sides = [node.left, *node.comparators]
    for sign, left, right in zip(node.ops, sides, sides[1:]):
        constants = [side for side in (left, right) if isinstance(side, ast.Constant)]
        if isinstance(sign, (ast.Is, ast.IsNot)) and not [c for c in constants if c.value in (None, True, False)]:
            yield "L20 is beside something else"


def call_faults(node, own):
    for argument in node.args:
        if isinstance(argument, ast.Starred) and not is_star_right(argument.value, own):
            yield "L7 a star over what may not stand there"
    if isinstance(node.func, ast.Attribute):
        if node.func.attr not in METHODS | own | {"__init__"}:
            yield f"L25 {node.func.attr}"
        if node.func.attr in VIEWS and not iterated_at_once(node):
            yield "L23 not iterated at once"
        if node.func.attr in METHODS - own and node.keywords and node.func.attr != "sort":
            yield "L25 a keyword"
        return
    name = node.func.id if isinstance(node.func, ast.Name) else ""
    if name in ("any", "all", "sum", "min", "max", "sorted"):
        if any(isinstance(argument, ast.GeneratorExp) for argument in node.args):
            yield "L7 a generator expression instead of a list"
    if name in ITERATED and not iterated_at_once(node):
        yield "L23 not iterated at once"
    if name in ("set", "frozenset") and not set_stands_right(node):
        yield "L24 a set where none may stand"
    if name in ("bytes", "print", "chr"):
        yield f"L8 {name}"


def is_star_right(value, own):
    if isinstance(value, ast.Attribute):
        return isinstance(value.value, ast.Name) and value.attr not in own
    return isinstance(value, (ast.Name, ast.List, ast.Tuple))


def iterated_at_once(node):
    above = node.above
    if isinstance(above, (ast.For, ast.comprehension)):
        return above.iter is node
    if isinstance(above, ast.Assign):
        return isinstance(above.targets[0], ast.Name)
    if isinstance(above, ast.Compare) or is_call_of("len", above):
        return called_name(node) in ("range", "keys", "items")
    return isinstance(above, ast.Call) and node in above.args and called_name(above) in ITERATING


def called_name(node):
    return node.func.id if isinstance(node.func, ast.Name) else node.func.attr


def set_stands_right(node):
    above = node.above
    if isinstance(above, ast.BinOp):
        return set_stands_right(above)
    if isinstance(above, ast.Assign):
        return isinstance(above.targets[0], ast.Name) and not at_module_level(above)
    if isinstance(above, ast.Compare):
        return True
    return isinstance(above, ast.Call) and isinstance(above.func, ast.Name) and above.func.id in ("len", "sorted")


def handler_faults(node):
    classes = node.type.elts if isinstance(node.type, ast.Tuple) else [node.type]
    for one in classes:
        if not isinstance(one, ast.Name) or one.id in ERRORS - CAUGHT:
            yield "L19 catches what may not be caught"


def is_new_error(node):
    return isinstance(node, ast.Call) and isinstance(node.func, ast.Name)
