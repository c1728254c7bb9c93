"""Finds in a file of the package what ../shared/LANGUAGE.md rules out, as far as one file shows it."""

import ast
import builtins
import re

PACKAGE = "duelground"

NODES = set(
    "Module ImportFrom alias FunctionDef arguments arg Lambda ClassDef Return Assign AugAssign For While If Raise Try"
    " ExceptHandler Expr Pass Break Continue BoolOp BinOp UnaryOp IfExp Dict Set ListComp comprehension Compare Call"
    " keyword JoinedStr FormattedValue Constant Attribute Subscript Slice Name List Tuple Load Store And Or Add Sub"
    " Mult FloorDiv Mod Pow LShift RShift BitOr BitXor BitAnd Invert Not UAdd USub Eq NotEq Lt LtE Gt GtE Is IsNot"
    " In NotIn".split()
)
OWN_NAMES_OF_PYTHON = set(
    "len range enumerate zip min max sum abs sorted reversed int str bool list tuple dict set frozenset isinstance ord"
    " repr any all divmod Exception ValueError TypeError KeyError IndexError LookupError ZeroDivisionError"
    " ArithmeticError OverflowError RuntimeError NotImplementedError AttributeError StopIteration".split()
)
METHODS = set(
    "append clear copy count endswith extend find get index insert isalnum isalpha isdigit islower isspace isupper"
    " items join keys ljust lower lstrip partition pop remove replace reverse rfind rjust rpartition rsplit rstrip"
    " setdefault split splitlines startswith strip update upper values zfill bit_length".split()
)
SPECIAL_METHODS = set("__init__ __eq__ __repr__ __str__ __len__".split())
WORDS = re.compile(
    r"\b(type|typing|typing_extensions|enum|Enum|IntEnum|StrEnum|Flag|IntFlag|Generic|Protocol|ABC|ABCMeta|namedtuple"
    r"|NamedTuple|TypedDict|TYPE_CHECKING|abstractmethod)\b|dataclass|overload|contextmanager"
)
MOST_LINES_OF_FILE = 400
MOST_LINES_OF_FUNCTION = 40
MOST_SIGNS_OF_LINE = 120


def faults_of_text(text):
    for number, line in enumerate(text.split("\n"), start=1):
        if len(line) > MOST_SIGNS_OF_LINE:
            yield number, "L10 a long line"
        if not all(" " <= sign <= "~" for sign in line):
            yield number, "L14 a sign"
        if WORDS.search(line):
            yield number, "L17 a word"
    if len(text.splitlines()) > MOST_LINES_OF_FILE:
        yield 1, "L10 a long file"


def faults_of_top(tree):
    names = []
    for where, node in enumerate(tree.body):
        if isinstance(node, (ast.FunctionDef, ast.ClassDef)):
            names.append((node.lineno, node.name))
        elif isinstance(node, ast.Assign):
            names += [(node.lineno, target.id) for target in node.targets if isinstance(target, ast.Name)]
        elif isinstance(node, ast.ImportFrom):
            names += [(node.lineno, alias.asname or alias.name) for alias in node.names]
        elif not (where == 0 and isinstance(node, ast.Expr) and isinstance(node.value, ast.Constant)):
            yield node.lineno, "L3 the top of a module"
    for where, (number, name) in enumerate(names):
        if name in [earlier for _, earlier in names[:where]]:
            yield number, f"L15 {name} is bound twice"


def faults_of_function(node):
    if not isinstance(node, ast.Lambda):
        if node.decorator_list:
            yield node.lineno, "L4 a decorator"
        if node.end_lineno - node.lineno + 1 > MOST_LINES_OF_FUNCTION:
            yield node.lineno, "L10 a long function"
    given = node.args
    if given.vararg or given.kwarg or given.kwonlyargs or given.posonlyargs:
        yield node.lineno, "L4 parameters"


def faults_of_class(node):
    if node.decorator_list or node.keywords or len(node.bases) > 1:
        yield node.lineno, "L5 a class's head"
    for part in node.body:
        if not isinstance(part, (ast.FunctionDef, ast.Pass)):
            yield part.lineno, "L5 a class's body"


def faults_of_import(node):
    if node.module == "__future__" and [alias.name for alias in node.names] == ["annotations"]:
        return
    if node.level or not (node.module or "").startswith(PACKAGE + "."):
        yield node.lineno, "L2 an import"
    if any(alias.name == "*" for alias in node.names):
        yield node.lineno, "L2 an import of all"


def faults_of_name(name, number, is_method):
    if name.startswith("_") and not (is_method and name in SPECIAL_METHODS) and name not in ("__all__", "__version__"):
        yield number, f"L12 {name}"


def bound_names(node):
    if isinstance(node, (ast.FunctionDef, ast.ClassDef)):
        return [node.name]
    if isinstance(node, ast.arg):
        return [node.arg]
    if isinstance(node, ast.Name) and isinstance(node.ctx, ast.Store):
        return [node.id]
    return []


def faults_of_use(node, own):
    if isinstance(node, ast.Name) and isinstance(node.ctx, ast.Load) and node.id not in own:
        if node.id not in OWN_NAMES_OF_PYTHON:
            yield node.lineno, f"L8 {node.id}"
    if isinstance(node, ast.Call) and isinstance(node.func, ast.Attribute):
        if node.func.attr not in METHODS and node.func.attr not in own:
            yield node.lineno, f"L25 {node.func.attr}"
    if isinstance(node, ast.Compare):
        for operator, right in zip(node.ops, node.comparators):
            singular = isinstance(right, ast.Constant) and (right.value is None or isinstance(right.value, bool))
            if isinstance(operator, (ast.Is, ast.IsNot)) and not singular:
                yield node.lineno, "L20 is"


def faults_of_statement(node):
    if isinstance(node, ast.Assign) and len(node.targets) > 1:
        yield node.lineno, "L6 more targets than one"
    if isinstance(node, (ast.For, ast.While)) and node.orelse:
        yield node.lineno, "L6 else behind a loop"
    if isinstance(node, ast.Try) and node.finalbody:
        yield node.lineno, "L6 finally"
    if isinstance(node, ast.ListComp) and (len(node.generators) > 1 or len(node.generators[0].ifs) > 1):
        yield node.lineno, "L7 a list comprehension"
    if isinstance(node, ast.Constant) and isinstance(node.value, (float, complex, bytes)):
        yield node.lineno, "L7 a value"
    if isinstance(node, ast.Constant) and isinstance(node.value, str) and "%" in node.value:
        yield node.lineno, "L27 a sign in a text"
    if isinstance(node, ast.BinOp) and isinstance(node.op, ast.Pow):
        if not (isinstance(node.right, ast.Constant) and node.right.value in range(65)):
            yield node.lineno, "L27 an exponent"


def faults_of_node(node, own, methods):
    kind = node.__class__.__name__
    if kind not in NODES:
        yield getattr(node, "lineno", 0), f"L6 or L7 {kind}"
    if isinstance(node, (ast.FunctionDef, ast.Lambda)):
        yield from faults_of_function(node)
    if isinstance(node, ast.ClassDef):
        yield from faults_of_class(node)
    if isinstance(node, ast.ImportFrom):
        yield from faults_of_import(node)
    for name in bound_names(node):
        yield from faults_of_name(name, node.lineno, node in methods)
        if hasattr(builtins, name) and node not in methods:
            yield node.lineno, f"L15 {name}"
    yield from faults_of_use(node, own)
    yield from faults_of_statement(node)


def method_names(text):
    classes = [node for node in ast.walk(ast.parse(text)) if isinstance(node, ast.ClassDef)]
    return [name for node in classes for part in node.body for name in bound_names(part)]


def faults(text, known=()):
    """The faults of a file other than __main__.py, as (line, rule and what it is about).

    Known are the names of methods that other files of the package have.
    """
    tree = ast.parse(text)
    nodes = list(ast.walk(tree))
    own = {name for node in nodes for name in bound_names(node)}.union(known)
    for node in nodes:
        if isinstance(node, ast.ImportFrom):
            own.update(alias.asname or alias.name for alias in node.names)
        if isinstance(node, ast.ExceptHandler) and node.name:
            own.add(node.name)
    methods = [part for node in nodes if isinstance(node, ast.ClassDef) for part in node.body]
    found = list(faults_of_text(text)) + list(faults_of_top(tree))
    for node in nodes:
        found += faults_of_node(node, own, methods)
    return sorted(found)


def drawn_from(text):
    """Each (file, name) that a file of the package imports from the package."""
    rows = [node for node in ast.walk(ast.parse(text)) if isinstance(node, ast.ImportFrom)]
    return [(row.module.split(".")[-1], alias.name) for row in rows for alias in row.names if row.module != "__future__"]


def top_names(text):
    names = []
    for node in ast.parse(text).body:
        names += bound_names(node)
        if isinstance(node, ast.Assign):
            names += [target.id for target in node.targets if isinstance(target, ast.Name)]
    return names
