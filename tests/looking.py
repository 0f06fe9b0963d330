"""Looks at the form of a file: what a script can see of the rules for the package's files, L1 to L28."""

import ast
import builtins
import io
import re
import tokenize
from pathlib import Path

PACKAGE = Path(__file__).resolve().parent.parent / "stakebodies"

# L8: the names of Python's own that are free to be used; `chr` is out by L27.
FREE_NAMES = set(
    "len range enumerate zip min max sum abs sorted reversed int str bool list tuple dict set frozenset isinstance ord "
    "repr any all divmod Exception ValueError TypeError KeyError IndexError LookupError ZeroDivisionError "
    "ArithmeticError OverflowError RuntimeError NotImplementedError AttributeError StopIteration".split()
)
# L25: the methods of Python's own values.
FREE_METHODS = set(
    "append clear copy count endswith extend find get index insert isalnum isalpha isdigit islower isspace isupper "
    "items join keys ljust lower lstrip partition pop remove replace reverse rfind rjust rpartition rsplit rstrip "
    "setdefault split splitlines startswith strip update upper values zfill bit_length".split()
)
# L5: the methods with two underscores.
UNDERSCORED = {"__init__", "__eq__", "__repr__", "__str__", "__len__"}
# L17: nowhere a name, a method or a value.
NOWHERE = set("register mro elements open input version_info with_traceback add_note format format_map".split())
NO_NAMES = set(
    "attrgetter breakpoint builtins compile copyright credits delattr dir eval exec exit gc getattr globals hasattr "
    "help id importlib license locals methodcaller os quit setattr super type vars sys".split()
)
# L17: words that stand nowhere in a file, remarks and texts too.
NO_WORDS = re.compile(
    r"\b(type|typing|typing_extensions|enum|Enum|IntEnum|StrEnum|Flag|IntFlag|Generic|Protocol|ABC|ABCMeta|namedtuple|"
    r"NamedTuple|TypedDict|TYPE_CHECKING|abstractmethod)\b|dataclass|overload|contextmanager"
)
FRAME_NAME = re.compile(r"^(f|tb|co|gi|cr|ag)_[a-z]+$")
PLAIN_NAME = re.compile(r"^[A-Za-z][A-Za-z0-9_]*$")
FILE_NAME = re.compile(r"^([a-z][a-z0-9_]*|__init__|__main__)\.py$")
NO_FILES = {"test", "tests", "testing", "site", "conftest", "sitecustomize", "usercustomize"}
# L6 and L7: the statements and expressions that are free.
FREE_STATEMENTS = (
    ast.Assign, ast.AugAssign, ast.If, ast.While, ast.For, ast.Return, ast.Break, ast.Continue, ast.Pass, ast.Raise,
    ast.Try, ast.Expr, ast.FunctionDef, ast.ClassDef, ast.ImportFrom,
)
FREE_EXPRESSIONS = (
    ast.Constant, ast.List, ast.Tuple, ast.Dict, ast.Set, ast.BinOp, ast.UnaryOp, ast.BoolOp, ast.Compare, ast.IfExp,
    ast.Call, ast.Attribute, ast.Subscript, ast.Slice, ast.ListComp, ast.JoinedStr, ast.FormattedValue, ast.Name,
    ast.Lambda,
)
WALKED_AT_ONCE = {"zip", "enumerate", "reversed", "range"}
WALKERS = {"list", "tuple", "dict", "sorted", "sum", "any", "all", "enumerate", "zip", "min", "max"}


class Look:
    """Looks at one file and notes each fault as (rule, line)."""

    def __init__(self, source, own_methods=()):
        self.source = source
        self.own_methods = set(own_methods)
        self.tree = ast.parse(source)
        self.faults = []
        self.parents = {}
        for node in ast.walk(self.tree):
            for child in ast.iter_child_nodes(node):
                self.parents[child] = node
        self.look_at_rows()
        self.look_at_tokens()
        self.look_at_top()
        for node in ast.walk(self.tree):
            self.look_at_node(node)
        self.look_at_names()

    def fault(self, rule, line):
        self.faults.append((rule, line))

    def look_at_rows(self):
        rows = self.source.split("\n")
        if len(rows) - (rows[-1] == "") > 400:
            self.fault("L10", len(rows))
        for line, row in enumerate(rows, start=1):
            if len(row) > 120 or "\t" in row:
                self.fault("L10", line)
            if any(not " " <= sign <= "~" for sign in row):
                self.fault("L14", line)
            if NO_WORDS.search(row):
                self.fault("L17", line)

    def look_at_tokens(self):
        for token in tokenize.generate_tokens(io.StringIO(self.source).readline):
            if token.type == tokenize.STRING:
                for escape in re.findall(r"\\(.)", token.string, re.DOTALL):
                    if escape not in "nt\\'\"":
                        self.fault("L27", token.start[0])
                if "%" in token.string:
                    self.fault("L27", token.start[0])

    def look_at_top(self):
        bound = []
        self.taken = set()
        for k, node in enumerate(self.tree.body):
            if isinstance(node, ast.Expr) and k == 0 and isinstance(node.value, ast.Constant):
                continue
            if isinstance(node, (ast.FunctionDef, ast.ClassDef)):
                bound.append((node.name, node.lineno))
            elif isinstance(node, ast.ImportFrom):
                bound.extend((alias.name, node.lineno) for alias in node.names)
            elif isinstance(node, ast.Assign):
                bound.extend((target.id, node.lineno) for target in node.targets if isinstance(target, ast.Name))
                above = {part.name for part in self.tree.body[:k] if isinstance(part, ast.FunctionDef)}
                self.look_at_plain_value(node.value, above)
            else:
                self.fault("L3", node.lineno)
            if isinstance(node, (ast.ClassDef, ast.ImportFrom)):
                self.taken.update(name for name, line in self.names_bound(node))
        names = [name for name, line in bound]
        for name, line in bound:
            if names.count(name) > 1:
                self.fault("L15", line)

    def look_at_plain_value(self, value, above):
        for node in ast.walk(value):
            if isinstance(node, ast.Name) and node.id not in above:
                self.fault("L3", value.lineno)
            if not isinstance(node, (ast.Constant, ast.List, ast.Tuple, ast.Dict, ast.Name, ast.UnaryOp, ast.USub,
                                     ast.Load)):
                self.fault("L3", value.lineno)
            elif isinstance(node, (ast.List, ast.Dict)) and node is not value:
                self.fault("L15", value.lineno)

    def look_at_node(self, node):
        if isinstance(node, ast.stmt) and not isinstance(node, FREE_STATEMENTS):
            self.fault("L6", node.lineno)
        if isinstance(node, ast.expr) and not isinstance(node, FREE_EXPRESSIONS):
            self.fault("L7", node.lineno)
        look = getattr(self, "look_at_" + node.__class__.__name__, None)
        if look is not None:
            look(node)

    def look_at_FunctionDef(self, node):
        if node.end_lineno - node.lineno + 1 > 40:
            self.fault("L10", node.lineno)
        if node.decorator_list:
            self.fault("L4", node.lineno)

    def look_at_arguments(self, node):
        if node.vararg or node.kwarg or node.kwonlyargs or node.posonlyargs:
            self.fault("L4", self.parents[node].lineno)

    def look_at_ClassDef(self, node):
        if node.decorator_list or len(node.bases) > 1 or node.keywords:
            self.fault("L5", node.lineno)
        if not isinstance(self.parents[node], ast.Module):
            self.fault("L15", node.lineno)
        for part in node.body:
            if not isinstance(part, (ast.FunctionDef, ast.Pass)):
                self.fault("L5", part.lineno)

    def look_at_ImportFrom(self, node):
        if not isinstance(self.parents[node], ast.Module):
            self.fault("L2", node.lineno)
        if node.level or not (node.module or "").startswith("stakebodies."):
            self.fault("L2", node.lineno)
        for alias in node.names:
            if alias.name == "*" or alias.asname:
                self.fault("L2", node.lineno)

    def look_at_Expr(self, node):
        top_text = isinstance(self.parents[node], ast.Module) and self.tree.body[0] is node
        if not isinstance(node.value, ast.Call) and not top_text:
            self.fault("L6", node.lineno)

    def look_at_Assign(self, node):
        if len(node.targets) != 1:
            self.fault("L6", node.lineno)

    def look_at_For(self, node):
        if node.orelse:
            self.fault("L6", node.lineno)

    look_at_While = look_at_For

    def look_at_Try(self, node):
        if node.finalbody:
            self.fault("L6", node.lineno)
        for handler in node.handlers:
            kinds = handler.type.elts if isinstance(handler.type, ast.Tuple) else [handler.type]
            for kind in kinds:
                if not isinstance(kind, ast.Name) or kind.id in ("Exception", "TypeError"):
                    self.fault("L19", handler.lineno)

    def look_at_Constant(self, node):
        if isinstance(node.value, (float, complex, bytes)) or node.value is ...:
            self.fault("L7", node.lineno)

    def look_at_BinOp(self, node):
        if isinstance(node.op, (ast.Div, ast.MatMult)):
            self.fault("L7", node.lineno)
        if isinstance(node.op, ast.Pow):
            power = node.right
            if not (isinstance(power, ast.Constant) and power.value in range(65)):
                self.fault("L27", node.lineno)

    def look_at_ListComp(self, node):
        if len(node.generators) != 1 or len(node.generators[0].ifs) > 1:
            self.fault("L7", node.lineno)

    def look_at_FormattedValue(self, node):
        if not isinstance(node.value, ast.Name) or node.format_spec or node.conversion not in (-1, ord("r")):
            self.fault("L7", node.lineno)

    def look_at_Compare(self, node):
        for op, right in zip(node.ops, node.comparators):
            if isinstance(op, (ast.Is, ast.IsNot)):
                if not (isinstance(right, ast.Constant) and right.value in (None, True, False)):
                    self.fault("L20", node.lineno)

    def look_at_Attribute(self, node):
        if node.attr in NOWHERE or FRAME_NAME.match(node.attr):
            self.fault("L17", node.lineno)
        if not PLAIN_NAME.match(node.attr) and node.attr not in UNDERSCORED:
            self.fault("L12", node.lineno)

    def look_at_Call(self, node):
        called = node.func
        if any(isinstance(given, ast.Starred) for given in node.args) or any(not k.arg for k in node.keywords):
            self.fault("L7", node.lineno)
        if isinstance(called, ast.Attribute):
            if called.attr not in FREE_METHODS | self.own_methods | UNDERSCORED:
                self.fault("L25", node.lineno)
        if isinstance(called, ast.Name):
            if called.id in WALKED_AT_ONCE and not self.walked_on_the_spot(node):
                self.fault("L23", node.lineno)
            if called.id in ("set", "frozenset") and not self.set_on_the_spot(node):
                self.fault("L24", node.lineno)

    def walked_on_the_spot(self, node):
        around = self.parents[node]
        if isinstance(around, (ast.For, ast.comprehension)):
            return around.iter is node
        return isinstance(around, ast.Call) and isinstance(around.func, ast.Name) and around.func.id in WALKERS

    def set_on_the_spot(self, node):
        around = self.parents[node]
        if isinstance(around, ast.BinOp):
            return self.set_on_the_spot(around)
        if isinstance(around, ast.Call):
            by = around.func
            return isinstance(by, ast.Name) and by.id in ("sorted", "len") and not around.keywords
        return isinstance(around, ast.Compare)

    def look_at_names(self):
        known = set(FREE_NAMES)
        for node in ast.walk(self.tree):
            known.update(name for name, line in self.names_bound(node))
        for node in ast.walk(self.tree):
            if isinstance(node, ast.Name) and isinstance(node.ctx, ast.Load) and node.id not in known:
                self.fault("L8", node.lineno)
            for name, line in self.names_bound(node):
                self.look_at_bound_name(name, line, node)

    def names_bound(self, node):
        if isinstance(node, (ast.FunctionDef, ast.ClassDef)):
            return [(node.name, node.lineno)]
        if isinstance(node, ast.arg):
            return [(node.arg, node.lineno)]
        if isinstance(node, ast.Name) and isinstance(node.ctx, ast.Store):
            return [(node.id, node.lineno)]
        if isinstance(node, ast.ExceptHandler) and node.name:
            return [(node.name, node.lineno)]
        if isinstance(node, ast.ImportFrom):
            return [(alias.name, node.lineno) for alias in node.names]
        return []

    def look_at_bound_name(self, name, line, node):
        is_method = isinstance(node, ast.FunctionDef) and isinstance(self.parents[node], ast.ClassDef)
        if is_method and name in UNDERSCORED or name == "__all__" or name == "__version__":
            return
        if not PLAIN_NAME.match(name):
            self.fault("L12", line)
        is_local = isinstance(node, (ast.arg, ast.Name, ast.ExceptHandler))
        if hasattr(builtins, name) and not is_method or name in self.taken and is_local:
            self.fault("L15", line)
        if name in NOWHERE or name in NO_NAMES or FRAME_NAME.match(name):
            self.fault("L17", line)


def package_sources():
    return {path.name: path.read_bytes().decode("utf-8") for path in sorted(PACKAGE.glob("*.py"))}


def methods_of(sources):
    found = set()
    for source in sources.values():
        for node in ast.walk(ast.parse(source)):
            if isinstance(node, ast.ClassDef):
                found.update(part.name for part in node.body if isinstance(part, ast.FunctionDef))
    return found


def names_at_top(source):
    found = set()
    for node in ast.parse(source).body:
        if isinstance(node, (ast.FunctionDef, ast.ClassDef)):
            found.add(node.name)
        elif isinstance(node, ast.Assign):
            found.update(target.id for target in node.targets if isinstance(target, ast.Name))
    return found


def draws(source):
    """The files that a file imports from, with the names that it takes."""
    found = {}
    for node in ast.parse(source).body:
        if isinstance(node, ast.ImportFrom):
            file_name = node.module.split(".")[-1] + ".py"
            found.setdefault(file_name, []).extend(alias.name for alias in node.names)
    return found
