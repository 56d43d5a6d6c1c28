"""What can be seen of a file's keeping to the rules of LANGUAGE.md, by its text and its syntax tree.

Not every rule can be seen so; a file without faults here may still break one.
"""

import ast
import builtins
import re

NODES = """
    Module Expr Import ImportFrom alias FunctionDef arguments arg Lambda ClassDef Return Assign AugAssign AnnAssign
    If While For Break Continue Pass Raise Try ExceptHandler Call keyword Attribute Subscript Slice Name Constant
    Load Store List Tuple Dict Set ListComp comprehension IfExp JoinedStr FormattedValue
    BinOp Add Sub Mult FloorDiv Mod Pow BitAnd BitOr BitXor LShift RShift UnaryOp USub UAdd Not Invert
    BoolOp And Or Compare Eq NotEq Lt LtE Gt GtE Is IsNot In NotIn
""".split()
OWN_NAMES_OF_PYTHON = """
    len range enumerate zip min max sum abs sorted reversed int str bool list tuple dict set frozenset isinstance
    ord repr any all divmod Exception ValueError TypeError KeyError IndexError LookupError ZeroDivisionError
    ArithmeticError OverflowError RuntimeError NotImplementedError AttributeError StopIteration
""".split()
METHODS = """
    append clear copy count endswith extend find get index insert isalnum isalpha isdigit islower isspace isupper
    items join keys ljust lower lstrip partition pop remove replace reverse rfind rjust rpartition rsplit rstrip
    setdefault split splitlines startswith strip update upper values zfill bit_length
""".split()
UNUSED_NAMES = """
    register mro elements open input version_info with_traceback add_note attrgetter breakpoint builtins compile
    copyright credits delattr dir eval exec exit gc getattr globals hasattr help id importlib license locals
    methodcaller os quit setattr super vars sys
""".split()
UNUSED_WORDS = re.compile(
    r"\b(type|typing|typing_extensions|enum|Enum|IntEnum|StrEnum|Flag|IntFlag|Generic|Protocol|ABC|ABCMeta"
    r"|namedtuple|NamedTuple|TypedDict|TYPE_CHECKING|abstractmethod)\b|dataclass|overload|contextmanager"
)
UNDERSCORED = ("__init__", "__eq__", "__repr__", "__str__", "__len__", "__all__", "__version__")


def faults_of_text(text):
    faults = []
    if re.search(r"[^ -~\n]", text):
        faults.append("L14: a sign beyond the blank to ~")
    lines = text.splitlines()
    if len(lines) > 400:
        faults.append("L10: more than 400 lines")
    if any(len(line) > 120 for line in lines):
        faults.append("L10: a line of more than 120 characters")
    if UNUSED_WORDS.search(text):
        faults.append(f"L17: the word {UNUSED_WORDS.search(text).group()}")
    return faults


def bound_names(node):
    if isinstance(node, (ast.FunctionDef, ast.ClassDef)):
        return [node.name]
    if isinstance(node, ast.arg):
        return [node.arg]
    if isinstance(node, ast.Name) and isinstance(node.ctx, ast.Store):
        return [node.id]
    if isinstance(node, (ast.Import, ast.ImportFrom)):
        return [alias.asname or alias.name for alias in node.names]
    if isinstance(node, ast.ExceptHandler) and node.name:
        return [node.name]
    return []


def faults_of_names(node):
    faults = []
    for name in bound_names(node):
        if name in UNDERSCORED:
            continue
        if not re.fullmatch(r"[A-Za-z][A-Za-z0-9_]*", name):
            faults.append(f"L12: the name {name}")
        if hasattr(builtins, name):
            faults.append(f"L15: {name} is a name of Python's own")
    if isinstance(node, ast.Name):
        if node.id in UNUSED_NAMES:
            faults.append(f"L17: the name {node.id}")
        if hasattr(builtins, node.id) and node.id not in OWN_NAMES_OF_PYTHON:
            faults.append(f"L8: {node.id} is not used")
    return faults


def faults_of_defs(node):
    faults = []
    if isinstance(node, (ast.FunctionDef, ast.ClassDef)) and node.decorator_list:
        faults.append("L4, L5: a decorator")
    if isinstance(node, ast.FunctionDef) and node.end_lineno - node.lineno + 1 > 40:
        faults.append(f"L10: {node.name} has more than 40 lines")
    if isinstance(node, ast.arguments) and (node.vararg or node.kwarg or node.kwonlyargs or node.posonlyargs):
        faults.append("L4: parameters that are not plain")
    if isinstance(node, ast.ClassDef):
        if len(node.bases) > 1 or node.keywords:
            faults.append(f"L5: {node.name} has more than one base")
        for part in node.body:
            if not isinstance(part, (ast.FunctionDef, ast.Pass)):
                faults.append(f"L5: {node.name} holds more than methods")
    return faults


def faults_of_values(node):
    faults = []
    if isinstance(node, ast.Constant):
        if not isinstance(node.value, (int, str)) and node.value is not None:
            faults.append("L7: a value that is not used")
        if isinstance(node.value, str) and "%" in node.value:
            faults.append("L27: the sign for a hundredth part in a text")
    if isinstance(node, ast.Compare):
        for sign, side in zip(node.ops, node.comparators):
            told = ast.unparse(side) in ("None", "True", "False")
            if isinstance(sign, (ast.Is, ast.IsNot)) and not told:
                faults.append("L20: is")
    if isinstance(node, ast.BinOp) and isinstance(node.op, ast.Pow):
        if not isinstance(node.right, ast.Constant) or node.right.value > 64:
            faults.append("L27: an exponent that is not written")
    if isinstance(node, ast.ListComp) and (len(node.generators) > 1 or len(node.generators[0].ifs) > 1):
        faults.append("L7: a comprehension of more than one for or if")
    if isinstance(node, ast.FormattedValue) and (node.format_spec or not isinstance(node.value, ast.Name)):
        faults.append("L7: an f-string that is not plain")
    return faults


def faults_of_statements(node):
    faults = []
    if isinstance(node, ast.Assign) and len(node.targets) > 1:
        faults.append("L6: more than one target")
    if isinstance(node, (ast.For, ast.While)) and node.orelse:
        faults.append("L6: else behind a loop")
    if isinstance(node, ast.Try) and node.finalbody:
        faults.append("L6: finally")
    if isinstance(node, ast.ExceptHandler):
        caught = "" if node.type is None else ast.unparse(node.type)
        if caught in ("", "Exception", "TypeError"):
            faults.append("L19: except without a class of its own")
    if isinstance(node, ast.Call) and isinstance(node.func, ast.Name) and node.func.id == "print":
        faults.append("L9: print")
    return faults


def faults_of_top(tree, package):
    faults = []
    names = []
    for place, node in enumerate(tree.body):
        is_docstring = place == 0 and isinstance(node, ast.Expr) and isinstance(node.value, ast.Constant)
        if not is_docstring and not isinstance(node, (ast.ImportFrom, ast.FunctionDef, ast.ClassDef, ast.Assign)):
            faults.append(f"L3: {type(node).__name__} at the top")
        if isinstance(node, ast.Assign):
            names += [part.id for target in node.targets for part in ast.walk(target) if isinstance(part, ast.Name)]
        else:
            names += bound_names(node)
    faults += [f"L15: {name} is bound twice" for name in sorted(set(names)) if names.count(name) > 1]
    for node in ast.walk(tree):
        if isinstance(node, (ast.Import, ast.ImportFrom)) and node not in tree.body:
            faults.append("L2: an import that is not at the top")
        if isinstance(node, ast.Import):
            faults.append("L16: an import without from")
        if isinstance(node, ast.ImportFrom):
            plain = node.level == 0 and (node.module or "").startswith(package + ".")
            if not plain or [alias for alias in node.names if alias.name == "*"]:
                faults.append("L2: an import from elsewhere, or of all names")
    return faults


def faults_of(text, package):
    tree = ast.parse(text)
    faults = faults_of_text(text) + faults_of_top(tree, package)
    own_methods = [node.name for node in ast.walk(tree) if isinstance(node, ast.FunctionDef)]
    for node in ast.walk(tree):
        kind = type(node).__name__
        if kind not in NODES:
            faults.append(f"L6, L7: {kind}")
        if isinstance(node, ast.Call) and isinstance(node.func, ast.Attribute):
            if node.func.attr not in METHODS + own_methods:
                faults.append(f"L25: the method {node.func.attr}")
        faults += faults_of_names(node) + faults_of_defs(node) + faults_of_values(node) + faults_of_statements(node)
    return faults


def drawn_from(text):
    """The module names that a file imports from, each with the names that it imports."""
    rows = [node for node in ast.parse(text).body if isinstance(node, ast.ImportFrom)]
    return [(row.module, [alias.name for alias in row.names]) for row in rows]


def defined_at_top(text):
    names = []
    for node in ast.parse(text).body:
        if isinstance(node, (ast.FunctionDef, ast.ClassDef)):
            names.append(node.name)
        if isinstance(node, ast.Assign):
            names += [target.id for target in node.targets if isinstance(target, ast.Name)]
    return names
