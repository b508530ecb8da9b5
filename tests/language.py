"""What of ../shared/LANGUAGE.md can be seen in one file of the package, rule by rule.

It finds the common slips. What it doesn't see (the whole of L13, L15, L18, L23 and L26,
say) is still asked for.
"""

import ast
import builtins
import re

PACKAGE = "scoreflow"

OWN_NAMES = set(
    "len range enumerate zip min max sum abs sorted reversed int str bool list tuple dict set frozenset "
    "isinstance ord repr any all divmod Exception ValueError TypeError KeyError IndexError LookupError "
    "ZeroDivisionError ArithmeticError OverflowError RuntimeError NotImplementedError AttributeError "
    "StopIteration".split()
)
OWN_METHODS = set(
    "append clear copy count endswith extend find get index insert isalnum isalpha isdigit islower isspace "
    "isupper items join keys ljust lower lstrip partition pop remove replace reverse rfind rjust rpartition "
    "rsplit rstrip setdefault split splitlines startswith strip update upper values zfill bit_length".split()
)
SPECIAL = set("__init__ __eq__ __repr__ __str__ __len__ __all__ __version__".split())
UNUSED_NAMES = set(
    "register mro elements open input version_info with_traceback add_note attrgetter breakpoint builtins "
    "compile copyright credits delattr dir eval exec exit gc getattr globals hasattr help id importlib license "
    "locals methodcaller os quit setattr super type vars sys __name__".split()
)
UNUSED_WORDS = re.compile(
    r"\b(type|typing|typing_extensions|enum|Enum|IntEnum|StrEnum|Flag|IntFlag|Generic|Protocol|ABC|ABCMeta|"
    r"namedtuple|NamedTuple|TypedDict|TYPE_CHECKING|abstractmethod)\b|dataclass|overload|contextmanager"
)
WALKED = set("zip enumerate reversed range items keys values".split())
WALKING = set("list tuple dict sorted sum any all enumerate zip".split())
BUILTINS_OF_ANY_VALUE = set()
for value in ("", 0, [], (), {}, set(), b""):
    BUILTINS_OF_ANY_VALUE.update(name for name in dir(value) if not name.startswith("__"))

NODES = (
    ast.Module, ast.FunctionDef, ast.ClassDef, ast.Return, ast.Assign, ast.AugAssign, ast.For, ast.While,
    ast.If, ast.Raise, ast.Try, ast.Pass, ast.Break, ast.Continue, ast.Expr, ast.Import, ast.ImportFrom, ast.alias,
    ast.BoolOp, ast.BinOp, ast.UnaryOp, ast.Lambda, ast.IfExp, ast.Dict, ast.Set, ast.ListComp,
    ast.comprehension, ast.Compare, ast.Call, ast.keyword, ast.JoinedStr, ast.FormattedValue, ast.Constant,
    ast.Attribute, ast.Subscript, ast.Slice, ast.Name, ast.List, ast.Tuple, ast.ExceptHandler, ast.arguments,
    ast.arg, ast.expr_context, ast.boolop, ast.operator, ast.unaryop, ast.cmpop,
)


def faults(text):
    """The faults of one file's text, each (rule, line)."""
    tree = ast.parse(text)
    found = faults_of_text(text) + faults_of_top(tree) + faults_of_names(tree) + faults_of_walks(tree)
    for node in ast.walk(tree):
        found += [(rule, getattr(node, "lineno", 0)) for rule in faults_of_node(node, tree)]
    return sorted(set(found))


def faults_of_text(text):
    found = []
    lines = text.split("\n")
    if len(lines) > 401:
        found.append(("L10", 401))
    for number, line in enumerate(lines, start=1):
        if len(line) > 120:
            found.append(("L10", number))
        if not all(" " <= sign <= "~" for sign in line):
            found.append(("L14", number))
        if UNUSED_WORDS.search(line):
            found.append(("L17", number))
    return found


def is_docstring(node, tree):
    return bool(tree.body) and node is tree.body[0] and isinstance(node.value, ast.Constant) \
        and isinstance(node.value.value, str)


def faults_of_top(tree):
    found = []
    bound = []
    for node in tree.body:
        if isinstance(node, (ast.FunctionDef, ast.ClassDef)):
            bound.append((node.name, node.lineno))
        elif isinstance(node, ast.ImportFrom):
            bound += [(alias.asname or alias.name, node.lineno) for alias in node.names]
        elif isinstance(node, ast.Assign) and isinstance(node.targets[0], ast.Name):
            bound.append((node.targets[0].id, node.lineno))
            if any(isinstance(part, (ast.Call, ast.ListComp, ast.Set, ast.Lambda)) for part in ast.walk(node.value)):
                found.append(("L3", node.lineno))
        elif not (isinstance(node, ast.Expr) and is_docstring(node, tree)):
            found.append(("L3", node.lineno))
    names = [name for name, line in bound]
    found += [("L15", line) for name, line in bound if names.count(name) > 1]
    return found


def bound_names(tree):
    for node in ast.walk(tree):
        if isinstance(node, (ast.FunctionDef, ast.ClassDef)):
            yield node.name, node.lineno, "def"
        elif isinstance(node, ast.arg):
            yield node.arg, node.lineno, "local"
        elif isinstance(node, ast.Name) and isinstance(node.ctx, ast.Store):
            yield node.id, node.lineno, "local"
        elif isinstance(node, ast.ExceptHandler) and node.name:
            yield node.name, node.lineno, "local"


def methods_of(tree):
    return [
        part for node in ast.walk(tree) if isinstance(node, ast.ClassDef)
        for part in node.body if isinstance(part, ast.FunctionDef)
    ]


def faults_of_names(tree):
    found = []
    methods = [(method.name, method.lineno) for method in methods_of(tree)]
    drawn = [alias for node in tree.body if isinstance(node, ast.ImportFrom) for alias in node.names]
    imported = [alias.asname or alias.name for alias in drawn]
    classes = [node.name for node in tree.body if isinstance(node, ast.ClassDef)]
    for name, line, kind in bound_names(tree):
        if not re.fullmatch("[A-Za-z][A-Za-z0-9_]*", name) and name not in SPECIAL:
            found.append(("L12", line))
        if hasattr(builtins, name) and (name, line) not in methods:
            found.append(("L15", line))
        if kind == "local" and name in imported + classes:
            found.append(("L15", line))
    for name, line in methods:
        if name in BUILTINS_OF_ANY_VALUE and name not in OWN_METHODS | {"add", "discard"}:
            found.append(("L26", line))
    return found


def methods_and_values(text):
    """The names of a file's methods and of the values that its objects are given."""
    tree = ast.parse(text)
    values = [
        node.attr for node in ast.walk(tree) if isinstance(node, ast.Attribute) and isinstance(node.ctx, ast.Store)
    ]
    return {method.name for method in methods_of(tree)}, set(values)


def is_walked(node, parent):
    """Whether what zip, items and their like tell is walked on the spot."""
    if isinstance(parent, (ast.For, ast.comprehension)):
        return node is parent.iter
    if not isinstance(parent, ast.Call) or node not in parent.args[:1]:
        return False
    if isinstance(parent.func, ast.Attribute):
        return parent.func.attr == "join" and isinstance(parent.func.value, ast.Constant)
    alone = isinstance(parent.func, ast.Name) and parent.func.id in {"min", "max"} and len(parent.args) == 1
    return alone or isinstance(parent.func, ast.Name) and parent.func.id in WALKING


def faults_of_walks(tree):
    found = []
    for parent in ast.walk(tree):
        for node in ast.iter_child_nodes(parent):
            if isinstance(node, ast.Call):
                name = getattr(node.func, "id", getattr(node.func, "attr", None))
                if name in WALKED and not is_walked(node, parent):
                    found.append(("L23", node.lineno))
    return found


def faults_of_node(node, tree):
    if not isinstance(node, NODES):
        return ["L6 or L7"]
    check = CHECKS.get(type(node).__name__)
    return check(node, tree) if check else []


def faults_of_def(node, tree):
    found = []
    if node.decorator_list:
        found.append("L4")
    if node.end_lineno - node.lineno + 1 > 40:
        found.append("L10")
    return found


def faults_of_class(node, tree):
    found = []
    if node.decorator_list or node.keywords or len(node.bases) > 1 or node not in tree.body:
        found.append("L5")
    if not all(isinstance(part, (ast.FunctionDef, ast.Pass)) for part in node.body):
        found.append("L5")
    return found


def faults_of_arguments(node, tree):
    plain = not (node.vararg or node.kwarg or node.kwonlyargs or node.posonlyargs)
    annotated = any(arg.annotation for arg in node.args)
    return ([] if plain else ["L4"]) + (["L21"] if annotated else [])


def faults_of_plain_import(node, tree):
    return ["L2"]


def faults_of_import(node, tree):
    own = node.level == 0 and (node.module or "").startswith(PACKAGE + ".")
    starred = any(alias.name == "*" for alias in node.names)
    return [] if own and not starred and node in tree.body else ["L2"]


def faults_of_expression(node, tree):
    if isinstance(node.value, ast.Call) or is_docstring(node, tree):
        return []
    return ["L6"]


def faults_of_assignment(node, tree):
    return ["L6"] if len(node.targets) > 1 else []


def faults_of_loop(node, tree):
    return ["L6"] if node.orelse else []


def faults_of_try(node, tree):
    return ["L6"] if node.finalbody else []


def faults_of_handler(node, tree):
    if node.type is None:
        return ["L6"]
    taken = {part.id for part in ast.walk(node.type) if isinstance(part, ast.Name)}
    return ["L19"] if taken & {"Exception", "TypeError"} else []


def faults_of_constant(node, tree):
    if isinstance(node.value, (float, complex, bytes)) or node.value is Ellipsis:
        return ["L7"]
    if isinstance(node.value, str) and "%" in node.value:
        return ["L27"]
    return []


def faults_of_operator(node, tree):
    if isinstance(node.op, (ast.Div, ast.MatMult)):
        return ["L7"]
    if isinstance(node.op, ast.Pow):
        power = node.right.value if isinstance(node, ast.BinOp) and isinstance(node.right, ast.Constant) else None
        return [] if isinstance(power, int) and 0 <= power <= 64 else ["L27"]
    return []


def faults_of_comprehension(node, tree):
    return [] if len(node.generators) == 1 and len(node.generators[0].ifs) <= 1 else ["L7"]


def faults_of_comparison(node, tree):
    sides = [node.left] + node.comparators
    for place, op in enumerate(node.ops):
        if isinstance(op, (ast.Is, ast.IsNot)):
            near = sides[place:place + 2]
            if not any(isinstance(side, ast.Constant) and side.value in (None, True, False) for side in near):
                return ["L20"]
    return []


def faults_of_name(node, tree):
    if node.id in UNUSED_NAMES:
        return ["L17"]
    if isinstance(node.ctx, ast.Load) and hasattr(builtins, node.id) and node.id not in OWN_NAMES:
        return ["L8"]
    return []


def faults_of_attribute(node, tree):
    if node.attr.startswith("_") and node.attr not in SPECIAL:
        return ["L12"]
    if node.attr in BUILTINS_OF_ANY_VALUE and node.attr not in OWN_METHODS | {"add", "discard", "title"}:
        return ["L25"]
    return []


def faults_of_braces(node, tree):
    return [] if isinstance(node.value, ast.Name) and node.format_spec is None else ["L7"]


CHECKS = {
    "FunctionDef": faults_of_def,
    "ClassDef": faults_of_class,
    "arguments": faults_of_arguments,
    "Import": faults_of_plain_import,
    "ImportFrom": faults_of_import,
    "Expr": faults_of_expression,
    "Assign": faults_of_assignment,
    "For": faults_of_loop,
    "While": faults_of_loop,
    "Try": faults_of_try,
    "ExceptHandler": faults_of_handler,
    "Constant": faults_of_constant,
    "BinOp": faults_of_operator,
    "AugAssign": faults_of_operator,
    "ListComp": faults_of_comprehension,
    "Compare": faults_of_comparison,
    "Name": faults_of_name,
    "Attribute": faults_of_attribute,
    "FormattedValue": faults_of_braces,
}
