"""Tells where a file of the package leaves LANGUAGE.md, as far as a look at its syntax can.

Not all of L1 to L28 is seen here: what a value is at run time (L11, L15, L19, L23) is left to the reader.
"""

import ast
import builtins
import re

OWN_NAMES = """len range enumerate zip min max sum abs sorted reversed int str bool list tuple dict set frozenset
isinstance ord repr any all divmod Exception ValueError TypeError KeyError IndexError LookupError ZeroDivisionError
ArithmeticError OverflowError RuntimeError NotImplementedError AttributeError StopIteration""".split()
METHODS = """append clear copy count endswith extend find get index insert isalnum isalpha isdigit islower isspace
isupper items join keys ljust lower lstrip partition pop remove replace reverse rfind rjust rpartition rsplit rstrip
setdefault split splitlines startswith strip update upper values zfill bit_length""".split()
SPECIAL_METHODS = ["__init__", "__eq__", "__repr__", "__str__", "__len__"]
UNUSED_ANYWHERE = "register mro elements open input version_info with_traceback add_note format format_map".split()
WORDS = """type typing typing_extensions enum Enum IntEnum StrEnum Flag IntFlag Generic Protocol ABC ABCMeta namedtuple
NamedTuple TypedDict TYPE_CHECKING abstractmethod""".split()
WORD_PARTS = ["dataclass", "overload", "contextmanager"]
NOT_AS_NAMES = """attrgetter breakpoint builtins compile copyright credits delattr dir eval exec exit gc getattr globals
hasattr help id importlib license locals methodcaller os quit setattr super type vars sys __name__""".split()
KEYWORDS = {"sorted": ["key", "reverse"], "min": ["key", "default"], "max": ["key", "default"], "sum": ["start"],
            "enumerate": ["start"], "zip": ["strict"]}
WALKED = ["zip", "enumerate", "reversed", "range"]
WALKED_METHODS = ["items", "keys", "values"]
WALKERS = "list tuple dict sorted sum any all enumerate zip".split()
CLASSES_ASKED = ["int", "str", "bool", "list", "tuple", "dict"]
OWN_METHODS_TOO = ["add", "discard", *METHODS]
OWN_VALUES_TOO = "count index title find get join lower upper split strip copy add".split()
PYTHONS_OWN = {"args"} | {name for kind in (str, int, list, dict, set, bytes, tuple) for name in dir(kind)}
BAD_FILES = "test tests testing site conftest sitecustomize usercustomize".split()

STATEMENTS = (ast.FunctionDef, ast.ClassDef, ast.Return, ast.Assign, ast.AugAssign, ast.For, ast.While, ast.If,
              ast.Raise, ast.Try, ast.ImportFrom, ast.Expr, ast.Pass, ast.Break, ast.Continue)
EXPRESSIONS = (ast.BoolOp, ast.BinOp, ast.UnaryOp, ast.Lambda, ast.IfExp, ast.Dict, ast.Set, ast.ListComp, ast.Compare,
               ast.Call, ast.FormattedValue, ast.JoinedStr, ast.Constant, ast.Attribute, ast.Subscript, ast.Name,
               ast.List, ast.Tuple, ast.Slice)
CHECKS = []


def check(rule):
    def keep(function):
        CHECKS.append((rule, function))
        return function
    return keep


def faults(source, own_methods=()):
    """The faults of one file's text, each as (rule, line); own_methods are the names of the package's own methods."""
    tree = ast.parse(source)
    found = list(row_faults(source)) + top_faults(tree) + name_faults(tree) + placed_faults(tree)
    for node in ast.walk(tree):
        for rule, function in CHECKS:
            if function(node):
                found.append((rule, getattr(node, "lineno", 0)))
        if is_method_call(node) and node.func.attr not in [*METHODS, *SPECIAL_METHODS, *own_methods]:
            found.append(("L25", node.lineno))
    return sorted(set(found))


def row_faults(source):
    rows = source.split("\n")
    if len(rows) > 401:
        yield ("L10", len(rows))
    for number, row in enumerate(rows, start=1):
        if len(row) > 120 or "\t" in row:
            yield ("L10", number)
        if not all(" " <= sign <= "~" for sign in row):
            yield ("L14", number)
        if any(word in WORDS for word in re.findall(r"\w+", row)) or any(part in row for part in WORD_PARTS):
            yield ("L17", number)


def is_docstring(node):
    return isinstance(node, ast.Expr) and isinstance(node.value, ast.Constant) and isinstance(node.value.value, str)


def top_faults(tree):
    found = []
    for place, node in enumerate(tree.body):
        allowed = isinstance(node, (ast.ImportFrom, ast.FunctionDef, ast.ClassDef, ast.Assign))
        if not allowed and not (place == 0 and is_docstring(node)):
            found.append(("L3", node.lineno))
    inner = [node for top in tree.body for node in ast.walk(top) if node is not top]
    found += [("L2", node.lineno) for node in inner if isinstance(node, ast.ImportFrom)]
    found += [("L15", node.lineno) for node in inner if isinstance(node, ast.ClassDef)]
    texts = [node.value for node in tree.body[:1] if is_docstring(node)]
    for node in ast.walk(tree):
        if isinstance(node, ast.Expr) and not isinstance(node.value, ast.Call) and node.value not in texts:
            found.append(("L6", node.lineno))
    return found


def bound_names(tree):
    """Every name that the file binds, as (name, line, what it is)."""
    found = []
    for node in ast.walk(tree):
        if isinstance(node, ast.ImportFrom):
            found += [(alias.asname or alias.name, node.lineno, "import") for alias in node.names]
        elif isinstance(node, ast.ClassDef):
            found.append((node.name, node.lineno, "class"))
        elif isinstance(node, ast.FunctionDef):
            found.append((node.name, node.lineno, "def"))
        elif isinstance(node, ast.arg):
            found.append((node.arg, node.lineno, "local"))
        elif isinstance(node, ast.Name) and isinstance(node.ctx, ast.Store):
            found.append((node.id, node.lineno, "local"))
        elif isinstance(node, ast.ExceptHandler) and node.name:
            found.append((node.name, node.lineno, "local"))
    return found


def name_faults(tree):
    found = []
    bound = bound_names(tree)
    fixed = [name for name, line, what in bound if what in ("class", "import")]
    methods = [node for top in tree.body if isinstance(top, ast.ClassDef) for node in top.body]
    method_lines = [node.lineno for node in methods]
    for name, line, what in bound:
        if not re.fullmatch(r"[A-Za-z][A-Za-z0-9_]*", name) and name not in SPECIAL_METHODS:
            found.append(("L12", line))
        if name in dir(builtins) and not (what == "def" and line in method_lines):
            found.append(("L15", line))
        if what == "local" and name in fixed:
            found.append(("L15", line))
    known = {name for name, line, what in bound} | set(OWN_NAMES)
    for node in ast.walk(tree):
        if isinstance(node, ast.Name) and node.id not in known:
            found.append(("L8", node.lineno))
    tops = [name for node in tree.body for name in names_at_top(node)]
    found += [("L15", 0) for name in tops if tops.count(name) > 1]
    return found


def names_at_top(node):
    if isinstance(node, ast.Assign):
        return [target.id for target in node.targets if isinstance(target, ast.Name)]
    if isinstance(node, (ast.FunctionDef, ast.ClassDef)):
        return [node.name]
    return []


def is_method_call(node):
    return isinstance(node, ast.Call) and isinstance(node.func, ast.Attribute)


def placed_faults(tree):
    """What is out of place: right by itself, but not where it stands."""
    found = []
    parents = {child: node for node in ast.walk(tree) for child in ast.iter_child_nodes(node)}
    for node, parent in parents.items():
        if is_walked(node) and not is_walked_at_once(node, parent):
            found.append(("L23", node.lineno))
        if is_call_of(node, ["set", "frozenset"]) and not is_set_in_place(node, parent, parents):
            found.append(("L24", node.lineno))
        if isinstance(node, ast.Name) and node.id in OWN_NAMES and not is_own_name_in_place(node, parent, parents):
            found.append(("L22", node.lineno))
        if isinstance(node, ast.Attribute) and node.attr in METHODS and isinstance(node.ctx, ast.Load):
            if not (isinstance(parent, ast.Call) and parent.func is node) and node.attr not in OWN_VALUES_TOO:
                found.append(("L25", node.lineno))
    return found


def is_call_of(node, names):
    return isinstance(node, ast.Call) and isinstance(node.func, ast.Name) and node.func.id in names


def is_walked(node):
    return is_call_of(node, WALKED) or is_method_call(node) and node.func.attr in WALKED_METHODS


def is_walked_at_once(node, parent):
    if isinstance(parent, (ast.For, ast.comprehension)):
        return parent.iter is node
    if is_call_of(parent, WALKERS):
        return parent.args[0] is node or is_call_of(parent, ["zip"])
    if is_call_of(parent, ["min", "max"]):
        return len(parent.args) == 1
    return is_method_call(parent) and parent.func.attr == "join" and isinstance(parent.func.value, ast.Constant)


def is_set_in_place(node, parent, parents):
    while isinstance(parent, ast.BinOp):
        parent = parents[parent]
    return isinstance(parent, ast.Compare) or is_call_of(parent, ["sorted", "len"]) and not parent.keywords


def is_own_name_in_place(node, parent, parents):
    if isinstance(parent, ast.Call) and parent.func is node:
        return True
    if isinstance(parent, ast.Tuple):
        parent = parents[parent]
    if is_call_of(parent, ["isinstance"]):
        return node.id in CLASSES_ASKED
    if isinstance(parent, ast.keyword):
        return parent.arg == "key"
    return isinstance(parent, (ast.ClassDef, ast.ExceptHandler, ast.Raise))


@check("L6")
def is_other_statement(node):
    return isinstance(node, ast.stmt) and not isinstance(node, STATEMENTS)


@check("L7")
def is_other_expression(node):
    return isinstance(node, ast.expr) and not isinstance(node, EXPRESSIONS)


@check("L2")
def is_foreign_import(node):
    if not isinstance(node, ast.ImportFrom):
        return isinstance(node, ast.Import)
    own = node.level == 0 and re.fullmatch(r"zonewalk\.[a-z0-9_]+", node.module or "")
    return not own or any(alias.name == "*" for alias in node.names)


@check("L4")
def is_odd_function(node):
    if isinstance(node, ast.arguments):
        return bool(node.vararg or node.kwarg or node.kwonlyargs or node.posonlyargs)
    return isinstance(node, ast.FunctionDef) and bool(node.decorator_list)


@check("L5")
def is_odd_class(node):
    if not isinstance(node, ast.ClassDef):
        return False
    plain = all(isinstance(part, (ast.FunctionDef, ast.Pass)) for part in node.body)
    return not plain or len(node.bases) > 1 or bool(node.keywords or node.decorator_list)


@check("L6")
def is_odd_form(node):
    if isinstance(node, ast.Assign):
        return len(node.targets) != 1 or isinstance(node.targets[0], (ast.Tuple, ast.List))
    if isinstance(node, (ast.For, ast.While)):
        return bool(node.orelse)
    if isinstance(node, ast.Try):
        return bool(node.finalbody)
    return isinstance(node, ast.ExceptHandler) and node.type is None


@check("L7")
def is_odd_value(node):
    if isinstance(node, ast.Constant):
        return not (node.value is None or isinstance(node.value, (bool, int, str)))
    if isinstance(node, ast.ListComp):
        return len(node.generators) != 1 or len(node.generators[0].ifs) > 1
    if isinstance(node, ast.FormattedValue):
        return not isinstance(node.value, ast.Name) or node.format_spec is not None or node.conversion not in (-1, 114)
    return isinstance(node, (ast.Div, ast.MatMult))


@check("L10")
def is_long_function(node):
    return isinstance(node, ast.FunctionDef) and node.end_lineno - node.lineno + 1 > 40


@check("L17")
def is_unused_name(node):
    names = [getattr(node, field, None) for field in ("id", "attr", "name", "arg")]
    return any(name in UNUSED_ANYWHERE for name in names) or getattr(node, "id", None) in NOT_AS_NAMES


@check("L21")
def is_annotated(node):
    return getattr(node, "annotation", None) is not None or getattr(node, "returns", None) is not None


@check("L22")
def is_odd_keyword(node):
    if not isinstance(node, ast.Call) or not isinstance(node.func, ast.Name) or node.func.id not in OWN_NAMES:
        return False
    return any(keyword.arg not in KEYWORDS.get(node.func.id, []) for keyword in node.keywords)


@check("L28")
def is_odd_init(node):
    if not isinstance(node, ast.FunctionDef) or node.name != "__init__":
        return False
    return any(isinstance(part, ast.Return) and part.value is not None for part in ast.walk(node))


@check("L8")
def is_hidden_attribute(node):
    return isinstance(node, ast.Attribute) and node.attr.startswith("_") and node.attr not in SPECIAL_METHODS


@check("L19")
def is_wide_handler(node):
    wide = isinstance(node, ast.ExceptHandler) and isinstance(node.type, ast.Name)
    return wide and node.type.id in ("Exception", "TypeError")


@check("L20")
def is_odd_is(node):
    if not isinstance(node, ast.Compare):
        return False
    sides = [node.left, *node.comparators]
    plain = [isinstance(side, ast.Constant) and (side.value is None or isinstance(side.value, bool)) for side in sides]
    asked = [isinstance(word, (ast.Is, ast.IsNot)) for word in node.ops]
    return any(word and not (plain[place] or plain[place + 1]) for place, word in enumerate(asked))


@check("L27")
def is_odd_number_or_text(node):
    if isinstance(node, ast.BinOp) and isinstance(node.op, ast.Pow):
        power = node.right
        return not (isinstance(power, ast.Constant) and isinstance(power.value, int) and 0 <= power.value <= 64)
    return isinstance(node, ast.Constant) and isinstance(node.value, str) and "%" in node.value


def method_names(sources):
    trees = [ast.parse(source) for source in sources]
    classes = [node for tree in trees for node in tree.body if isinstance(node, ast.ClassDef)]
    return [part.name for node in classes for part in node.body if isinstance(part, ast.FunctionDef)]


def value_names(sources):
    """The names under which objects keep values: all that is given as an attribute."""
    nodes = [node for source in sources for node in ast.walk(ast.parse(source))]
    return [node.attr for node in nodes if isinstance(node, ast.Attribute) and isinstance(node.ctx, ast.Store)]


def clashes(sources):
    """Names of methods and of values that stand in one another's way, or in the way of Python's own."""
    methods = [name for name in method_names(sources) if name not in SPECIAL_METHODS]
    kept = value_names(sources)
    found = [name for name in methods if name in kept]
    found += [name for name in methods if name in PYTHONS_OWN and name not in OWN_METHODS_TOO]
    return sorted(found + [name for name in kept if name in PYTHONS_OWN and name not in OWN_VALUES_TOO])


def drawn_elsewhere(sources):
    """The rows (file, name) that draw a name from another file than the one that defines it."""
    tops = {name: [found for node in ast.parse(source).body for found in names_at_top(node)]
            for name, source in sources.items()}
    rows = [(file, node.module.rpartition(".")[2], alias.name) for file, source in sources.items()
            for node in ast.parse(source).body if isinstance(node, ast.ImportFrom) for alias in node.names]
    return [(file, name) for file, drawn, name in rows if name not in tops.get(drawn, [])]


def drawn_from(source):
    """The package's own files that a file imports from, without the package's name."""
    rows = [node for node in ast.parse(source).body if isinstance(node, ast.ImportFrom)]
    return [(node.module or "").rpartition(".")[2] for node in rows]


def in_a_ring(sources):
    """The names of the files, of a dict from names to texts, that draw from themselves in however many steps."""
    reached = {name: set(drawn_from(source)) for name, source in sources.items()}
    for step in sources:
        for name in reached:
            reached[name] |= {far for near in reached[name] for far in reached.get(near, ())}
    return sorted(name for name in reached if name in reached[name])
