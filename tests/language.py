"""What can be seen of a file's keeping to the rules of LANGUAGE.md, by its text and its syntax tree.

Not every rule can be seen so; a file without faults here may still break one.
"""

import ast
import builtins
import re

NODES = """
    Module Expr Import ImportFrom alias FunctionDef arguments arg Lambda ClassDef Return Assign AugAssign AnnAssign
    If While For Break Continue Pass Raise Try ExceptHandler Call keyword Attribute Subscript Slice Name Constant
    Load Store List Tuple Dict Set ListComp comprehension IfExp JoinedStr FormattedValue
    BinOp Add Sub Mult FloorDiv Mod Pow BitAnd BitOr BitXor LShift RShift UnaryOp USub UAdd Not Invert
    BoolOp And Or Compare Eq NotEq Lt LtE Gt GtE Is IsNot In NotIn
""".split()
OWN_NAMES_OF_PYTHON = """
    len range enumerate zip min max sum abs sorted reversed int str bool list tuple dict set frozenset isinstance
    ord repr any all divmod Exception ValueError TypeError KeyError IndexError LookupError ZeroDivisionError
    ArithmeticError OverflowError RuntimeError NotImplementedError AttributeError StopIteration
""".split()
METHODS = """
    append clear copy count endswith extend find get index insert isalnum isalpha isdigit islower isspace isupper
    items join keys ljust lower lstrip partition pop remove replace reverse rfind rjust rpartition rsplit rstrip
    setdefault split splitlines startswith strip update upper values zfill bit_length
""".split()
UNUSED_NAMES = """
    register mro elements open input version_info with_traceback add_note attrgetter breakpoint builtins compile
    copyright credits delattr dir eval exec exit gc getattr globals hasattr help id importlib license locals
    methodcaller os quit setattr super vars sys
""".split()
UNUSED_WORDS = re.compile(
    r"\b(type|typing|typing_extensions|enum|Enum|IntEnum|StrEnum|Flag|IntFlag|Generic|Protocol|ABC|ABCMeta"
    r"|namedtuple|NamedTuple|TypedDict|TYPE_CHECKING|abstractmethod)\b|dataclass|overload|contextmanager"
)
UNDERSCORED = ("__init__", "__eq__", "__repr__", "__str__", "__len__", "__all__", "__version__")


def faults_of_text(text):
    faults = []
    if re.search(r"[^ -~\n]", text):
        faults.append("L14: a sign beyond the blank to ~")
    lines = text.splitlines()
    if len(lines) > 400:
        faults.append("L10: more than 400 lines")
    if any(len(line) > 120 for line in lines):
        faults.append("L10: a line of more than 120 characters")
    if UNUSED_WORDS.search(text):
        faults.append(f"L17: the word {UNUSED_WORDS.search(text).group()}")
    return faults


def bound_names(node):
    if isinstance(node, (ast.FunctionDef, ast.ClassDef)):
        return [node.name]
    if isinstance(node, ast.arg):
        return [node.arg]
    if isinstance(node, ast.Name) and isinstance(node.ctx, ast.Store):
        return [node.id]
    if isinstance(node, (ast.Import, ast.ImportFrom)):
        return [alias.asname or alias.name for alias in node.names]
    if isinstance(node, ast.ExceptHandler) and node.name:
        return [node.name]
    return []


def faults_of_names(node):
    faults = []
    for name in bound_names(node):
        if name in UNDERSCORED:
            continue
        if not re.fullmatch(r"[A-Za-z][A-Za-z0-9_]*", name):
            faults.append(f"L12: the name {name}")
        if hasattr(builtins, name):
            faults.append(f"L15: {name} is a name of Python's own")
    if isinstance(node, ast.Name):
        if node.id in UNUSED_NAMES:
            faults.append(f"L17: the name {node.id}")
        if hasattr(builtins, node.id) and node.id not in OWN_NAMES_OF_PYTHON:
            faults.append(f"L8: {node.id} is not used")
    return faults


def faults_of_defs(node):
    faults = []
    if isinstance(node, (ast.FunctionDef, ast.ClassDef)) and node.decorator_list:
        faults.append("L4, L5: a decorator")
    if isinstance(node, ast.FunctionDef) and node.end_lineno - node.lineno + 1 > 40:
        faults.append(f"L10: {node.name} has more than 40 lines")
    if isinstance(node, ast.arguments) and (node.vararg or node.kwarg or node.kwonlyargs or node.posonlyargs):
        faults.append("L4: parameters that are not plain")
    if isinstance(node, ast.ClassDef):
        if len(node.bases) > 1 or node.keywords:
            faults.append(f"L5: {node.name} has more than one base")
        for part in node.body:
            if not isinstance(part, (ast.FunctionDef, ast.Pass)):
                faults.append(f"L5: {node.name} holds more than methods")
    return faults


def faults_of_values(node):
    faults = []
    if isinstance(node, ast.Constant):
        if not isinstance(node.value, (int, str)) and node.value is not None:
            faults.append("L7: a value that is not used")
        if isinstance(node.value, str) and "%" in node.value:
            faults.append("L27: the sign for a hundredth part in a text")
    if isinstance(node, ast.Compare):
        for sign, side in zip(node.ops, node.comparators):
            told = ast.unparse(side) in ("None", "True", "False")
            if isinstance(sign, (ast.Is, ast.IsNot)) and not told:
                faults.append("L20: is")
    if isinstance(node, ast.BinOp) and isinstance(node.op, ast.Pow):
        if not isinstance(node.right, ast.Constant) or node.right.value > 64:
            faults.append("L27: an exponent that is not written")
    if isinstance(node, ast.ListComp) and (len(node.generators) > 1 or len(node.generators[0].ifs) > 1):
        faults.append("L7: a comprehension of more than one for or if")
    if isinstance(node, ast.FormattedValue) and (node.format_spec or not isinstance(node.value, ast.Name)):
        faults.append("L7: an f-string that is not plain")
    return faults


WALKERS = ("zip", "enumerate", "reversed", "range")
TAKERS = ("list", "tuple", "dict", "sorted", "sum", "any", "all", "enumerate", "zip")
KEYWORDS = {
    "sorted": ("key", "reverse"), "min": ("key", "default"), "max": ("key", "default"),
    "sum": ("start",), "enumerate": ("start",), "zip": ("strict",),
}
CHANGES = ("append", "clear", "extend", "insert", "pop", "remove", "reverse", "setdefault", "update")


def called(node):
    return node.func.id if isinstance(node, ast.Call) and isinstance(node.func, ast.Name) else ""


def is_walker(node):
    by_method = isinstance(node, ast.Call) and isinstance(node.func, ast.Attribute)
    return called(node) in WALKERS or (by_method and node.func.attr in ("items", "keys", "values"))


def walked_at_once(node, above):
    if isinstance(above, (ast.For, ast.comprehension)):
        return above.iter is node
    if called(above) in TAKERS:
        return node in above.args and (above.args[0] is node or called(above) == "zip")
    return called(above) in ("min", "max") and above.args == [node] and not above.keywords


def is_set_sum(node):
    return isinstance(node, ast.BinOp) and isinstance(node.op, (ast.Sub, ast.BitAnd, ast.BitOr, ast.BitXor))


def set_used_at_once(node, above):
    if isinstance(above, ast.Compare):
        return isinstance(above.ops[0], (ast.In, ast.NotIn, ast.Eq, ast.NotEq))
    return called(above) in ("sorted", "len") and not above.keywords


def faults_of_walks(node):
    faults = []
    for child in ast.iter_child_nodes(node):
        if is_walker(child) and not walked_at_once(child, node):
            faults.append(f"L23: {ast.unparse(child)} is not walked on the spot")
        in_sum = called(child) == "set" and is_set_sum(node)
        as_sum = is_set_sum(child) and called(child.left) == "set"
        if (called(child) == "set" or as_sum) and not in_sum and not set_used_at_once(child, node):
            faults.append(f"L24: {ast.unparse(child)} is kept or walked")
    if called(node) in OWN_NAMES_OF_PYTHON:
        let = KEYWORDS.get(called(node), ())
        faults += [f"L22: the keyword {keyword.arg}" for keyword in node.keywords if keyword.arg not in let]
    if isinstance(node, ast.For):
        walked = [ast.unparse(part) for part in ast.walk(node.iter) if isinstance(part, (ast.Name, ast.Attribute))]
        for part in [part for row in node.body for part in ast.walk(row)]:
            by_method = isinstance(part, ast.Call) and isinstance(part.func, ast.Attribute)
            if by_method and part.func.attr in CHANGES and ast.unparse(part.func.value) in walked:
                faults.append(f"L23: {ast.unparse(part)} changes what is walked")
    return faults


def names_within(tree):
    """The parameters and locals of the functions of a file."""
    parts = [part for node in tree.body for part in ast.walk(node) if isinstance(node, (ast.FunctionDef, ast.ClassDef))]
    return [name for part in parts if isinstance(part, (ast.arg, ast.Name)) for name in bound_names(part)]


def faults_of_hidden_names(tree):
    held = []
    for node in tree.body:
        if isinstance(node, (ast.ClassDef, ast.ImportFrom)):
            held += bound_names(node)
    return [f"L15: {name} is a class or an import too" for name in names_within(tree) if name in held]


def faults_of_statements(node):
    faults = []
    if isinstance(node, ast.Assign) and len(node.targets) > 1:
        faults.append("L6: more than one target")
    if isinstance(node, (ast.For, ast.While)) and node.orelse:
        faults.append("L6: else behind a loop")
    if isinstance(node, ast.Try) and node.finalbody:
        faults.append("L6: finally")
    if isinstance(node, ast.ExceptHandler):
        caught = "" if node.type is None else ast.unparse(node.type)
        if caught in ("", "Exception", "TypeError"):
            faults.append("L19: except without a class of its own")
    if isinstance(node, ast.Call) and isinstance(node.func, ast.Name) and node.func.id == "print":
        faults.append("L9: print")
    return faults


def faults_of_top(tree, package):
    faults = []
    names = []
    for place, node in enumerate(tree.body):
        is_docstring = place == 0 and isinstance(node, ast.Expr) and isinstance(node.value, ast.Constant)
        if not is_docstring and not isinstance(node, (ast.ImportFrom, ast.FunctionDef, ast.ClassDef, ast.Assign)):
            faults.append(f"L3: {type(node).__name__} at the top")
        if isinstance(node, ast.Assign):
            names += [part.id for target in node.targets for part in ast.walk(target) if isinstance(part, ast.Name)]
        else:
            names += bound_names(node)
    faults += [f"L15: {name} is bound twice" for name in sorted(set(names)) if names.count(name) > 1]
    for node in ast.walk(tree):
        if isinstance(node, (ast.Import, ast.ImportFrom)) and node not in tree.body:
            faults.append("L2: an import that is not at the top")
        if isinstance(node, ast.Import):
            faults.append("L16: an import without from")
        if isinstance(node, ast.ImportFrom):
            plain = node.level == 0 and (node.module or "").startswith(package + ".")
            if not plain or [alias for alias in node.names if alias.name == "*"]:
                faults.append("L2: an import from elsewhere, or of all names")
    return faults


def faults_of(text, package):
    tree = ast.parse(text)
    faults = faults_of_text(text) + faults_of_top(tree, package) + faults_of_hidden_names(tree)
    own_methods = [node.name for node in ast.walk(tree) if isinstance(node, ast.FunctionDef)]
    for node in ast.walk(tree):
        kind = type(node).__name__
        if kind not in NODES:
            faults.append(f"L6, L7: {kind}")
        if isinstance(node, ast.Call) and isinstance(node.func, ast.Attribute):
            if node.func.attr not in METHODS + own_methods:
                faults.append(f"L25: the method {node.func.attr}")
        faults += faults_of_names(node) + faults_of_defs(node) + faults_of_values(node) + faults_of_statements(node)
        faults += faults_of_walks(node)
    return faults


def drawn_from(text):
    """The module names that a file imports from, each with the names that it imports."""
    rows = [node for node in ast.parse(text).body if isinstance(node, ast.ImportFrom)]
    return [(row.module, [alias.name for alias in row.names]) for row in rows]


def defined_at_top(text):
    names = []
    for node in ast.parse(text).body:
        if isinstance(node, (ast.FunctionDef, ast.ClassDef)):
            names.append(node.name)
        if isinstance(node, ast.Assign):
            names += [target.id for target in node.targets if isinstance(target, ast.Name)]
    return names
