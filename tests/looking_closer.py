"""Looks closer: what a script can see of the narrower rules L13, L15, L18, L19, L21 to L28."""

import ast

from tests.looking import FREE_METHODS, FREE_NAMES, UNDERSCORED

ERROR_NAMES = {name for name in FREE_NAMES if name[0].isupper()}
OWN_FUNCTIONS_OF_PYTHON = FREE_NAMES - ERROR_NAMES
READERS = set("len sorted list dict tuple sum min max any all enumerate zip reversed".split())
READING_METHODS = set("get items keys values index count copy".split())
CHANGING = set("append clear extend insert pop remove reverse setdefault update".split())
KINDS_ASKED = set("int str bool list tuple dict".split())
KEYS = set("len int str abs sum min max tuple".split())
KEYWORDS = {
    "sorted": {"key", "reverse"}, "min": {"key", "default"}, "max": {"key", "default"}, "sum": {"start"},
    "enumerate": {"start"}, "zip": {"strict"},
}
WALKERS = set("list tuple dict sorted sum any all enumerate zip min max".split())
NARROW_ERRORS = {"ValueError", "LookupError", "IndexError"}
FREE_VALUES = set("count index title find get join lower upper split strip copy add".split())
NAMES_OF_PYTHON = {name for kind in (str, int, list, dict, set, bytes) for name in dir(kind)} | {"args"}


def is_whole(node):
    return isinstance(node, ast.Constant) and isinstance(node.value, int) and not isinstance(node.value, bool)


def called_name(node):
    if isinstance(node, ast.Call) and isinstance(node.func, ast.Name):
        return node.func.id
    return None


def called_method(node):
    if isinstance(node, ast.Call) and isinstance(node.func, ast.Attribute):
        return node.func.attr
    return None


def own_classes(sources):
    found = {}
    for source in sources:
        for node in ast.walk(ast.parse(source)):
            if isinstance(node, ast.ClassDef):
                found[node.name] = node
    return found


def values_given(node):
    return {part.attr for part in ast.walk(node) if isinstance(part, ast.Attribute) and isinstance(part.ctx, ast.Store)}


class CloserLook:
    """Looks at one file among all of the package, and notes each fault as (rule, line)."""

    def __init__(self, source, sources=None):
        sources = [source] if sources is None else sources
        self.tree = ast.parse(source)
        self.classes = own_classes(sources)
        self.values = set().union(*[values_given(ast.parse(each)) for each in sources])
        self.methods = {
            part.name for node in self.classes.values() for part in node.body if isinstance(part, ast.FunctionDef)
        }
        self.faults = []
        self.parents = {}
        for node in ast.walk(self.tree):
            for child in ast.iter_child_nodes(node):
                self.parents[child] = node
        self.top_lists = {
            node.targets[0].id for node in self.tree.body
            if isinstance(node, ast.Assign) and isinstance(node.value, (ast.List, ast.Dict))
        }
        self.top_names = {
            target.id for node in self.tree.body if isinstance(node, ast.Assign) for target in node.targets
        } | set(self.classes)
        self.lambdas = set()
        for node in ast.walk(self.tree):
            look = getattr(self, "look_at_" + node.__class__.__name__, None)
            if look is not None:
                look(node)

    def fault(self, rule, node):
        self.faults.append((rule, node.lineno))

    def look_at_Set(self, node):
        around = self.parents[node]
        asked = isinstance(around, ast.Compare) and node in around.comparators
        if not asked:
            self.fault("L24", node)
            if len([part for part in node.elts if is_whole(part)]) > 2:
                self.fault("L13", node)

    def look_at_Lambda(self, node):
        mark = (node.lineno, ast.dump(node.args))
        if mark in self.lambdas:
            self.fault("L13", node)
        self.lambdas.add(mark)

    def look_at_Name(self, node):
        if not isinstance(node.ctx, ast.Load):
            return
        if node.id in self.top_lists and not self.only_read(node):
            self.fault("L15", node)
        if node.id in ERROR_NAMES or node.id in self.classes:
            if not self.stands_as_class(node):
                self.fault("L18", node)
        elif node.id in OWN_FUNCTIONS_OF_PYTHON and not self.stands_as_function(node):
            self.fault("L22", node)

    def only_read(self, node):
        around = self.parents[node]
        if isinstance(around, ast.Subscript):
            return around.value is node and isinstance(around.ctx, ast.Load)
        if isinstance(around, (ast.For, ast.comprehension)):
            return around.iter is node
        if isinstance(around, ast.Attribute):
            return around.attr in READING_METHODS
        return isinstance(around, ast.Compare) or called_name(around) in READERS

    def asked_for_kind(self, node):
        around = self.parents[node]
        if isinstance(around, ast.Tuple):
            return self.asked_for_kind(around)
        return called_name(around) == "isinstance" and around.args[1:] == [node]

    def stands_as_class(self, node):
        around = self.parents[node]
        if isinstance(around, ast.Tuple) and isinstance(self.parents[around], ast.ExceptHandler):
            return True
        if isinstance(around, ast.Call):
            return around.func is node or self.asked_for_kind(node)
        if isinstance(around, ast.Attribute):
            return around.attr == "__init__"
        return isinstance(around, (ast.ClassDef, ast.ExceptHandler, ast.Raise)) or self.asked_for_kind(node)

    def stands_as_function(self, node):
        around = self.parents[node]
        if isinstance(around, ast.Call) and around.func is node:
            return True
        if isinstance(around, ast.keyword):
            return around.arg == "key" and node.id in KEYS
        return node.id in KINDS_ASKED and self.asked_for_kind(node)

    def look_at_Call(self, node):
        given = {keyword.arg for keyword in node.keywords}
        name, method = called_name(node), called_method(node)
        if name in FREE_NAMES and not given <= KEYWORDS.get(name, set()):
            self.fault("L22", node)
        if method in FREE_METHODS and given:
            self.fault("L22", node)
        for keyword in node.keywords:
            if keyword.arg in ("reverse", "strict") and name in KEYWORDS:
                if not (isinstance(keyword.value, ast.Constant) and isinstance(keyword.value.value, bool)):
                    self.fault("L22", node)
        if method in ("items", "keys", "values") and not self.walked_on_the_spot(node):
            self.fault("L23", node)

    def walked_on_the_spot(self, node):
        around = self.parents[node]
        if isinstance(around, (ast.For, ast.comprehension)):
            return around.iter is node
        if called_method(around) == "join":
            return isinstance(around.func.value, ast.Constant)
        return called_name(around) in WALKERS and around.args[:1] == [node]

    def look_at_For(self, node):
        walked = [node.iter]
        if called_name(node.iter) in ("enumerate", "zip", "reversed"):
            walked = node.iter.args
        walked = [part.func.value if called_method(part) in ("items", "keys", "values") else part for part in walked]
        marks = {ast.unparse(part) for part in walked if isinstance(part, (ast.Name, ast.Attribute))}
        for statement in node.body:
            for part in ast.walk(statement):
                if self.changed_by(part) in marks:
                    self.fault("L23", part)

    def changed_by(self, node):
        if called_method(node) in CHANGING:
            return ast.unparse(node.func.value)
        if isinstance(node, ast.Subscript) and isinstance(node.ctx, ast.Store):
            return ast.unparse(node.value)
        if isinstance(node, ast.AugAssign):
            return ast.unparse(node.target)
        return None

    def look_at_Attribute(self, node):
        around = self.parents[node]
        if isinstance(node.ctx, ast.Store):
            if isinstance(node.value, ast.Name) and node.value.id in self.top_names:
                self.fault("L18", node)
            if node.attr in NAMES_OF_PYTHON - FREE_VALUES:
                self.fault("L26", node)
            if node.attr in self.methods:
                self.fault("L18", node)
        elif node.attr in FREE_METHODS - self.values:
            called = isinstance(around, ast.Call) and around.func is node
            as_key = isinstance(around, ast.keyword) and around.arg == "key"
            if not called and not as_key:
                self.fault("L25", node)

    def look_at_ClassDef(self, node):
        methods = [part for part in node.body if isinstance(part, ast.FunctionDef)]
        names = [part.name for part in methods]
        for part in methods:
            if names.count(part.name) > 1:
                self.fault("L18", part)
            if part.name in NAMES_OF_PYTHON - FREE_METHODS - UNDERSCORED - {"add", "discard"}:
                self.fault("L26", part)
            if part.name in UNDERSCORED:
                self.look_at_underscored(part)
        for base in node.bases:
            if isinstance(base, ast.Name) and base.id in ("StopIteration", "AttributeError"):
                self.fault("L18", node)

    def look_at_underscored(self, method):
        for part in ast.walk(method):
            if method.name == "__init__":
                if isinstance(part, ast.Return) and part.value is not None:
                    self.fault("L28", part)
            elif isinstance(part, ast.AugAssign) or isinstance(part, (ast.Attribute, ast.Subscript)) and isinstance(
                    part.ctx, ast.Store) or called_method(part) in CHANGING:
                self.fault("L28", part)
            elif isinstance(part, ast.Return) and not self.plain_return(method.name, part.value):
                self.fault("L28", part)

    def plain_return(self, name, value):
        if name == "__len__":
            return called_name(value) == "len" or is_whole(value)
        if name in ("__repr__", "__str__"):
            text = isinstance(value, ast.Constant) and isinstance(value.value, str)
            joined = called_method(value) == "join" and isinstance(value.func.value, ast.Constant)
            return text or joined or isinstance(value, ast.JoinedStr) or called_name(value) in ("str", "repr")
        return True

    def look_at_Raise(self, node):
        if called_name(node.exc) is None:
            self.fault("L19", node)
        if node.cause is not None and not (isinstance(node.cause, ast.Name) or ast.unparse(node.cause) == "None"):
            self.fault("L19", node)

    def look_at_Try(self, node):
        named = [handler.type for handler in node.handlers if handler.type is not None]
        taken = {part.id for each in named for part in ast.walk(each) if isinstance(part, ast.Name)}
        if not taken & NARROW_ERRORS:
            return
        for statement in node.body:
            for part in ast.walk(statement):
                if not self.may_fail_narrowly(part):
                    self.fault("L19", node)

    def may_fail_narrowly(self, node):
        if isinstance(node, ast.Call):
            return called_name(node) in ("int", "str") or called_method(node) in ("index", "remove")
        if isinstance(node, (ast.BinOp, ast.AugAssign)):
            return not isinstance(node.op, (ast.Mult, ast.Pow, ast.Mod, ast.LShift, ast.RShift))
        return not isinstance(node, (ast.JoinedStr, ast.Slice, ast.Lambda))

    def look_at_FunctionDef(self, node):
        if node.returns is not None:
            self.fault("L21", node)

    def look_at_arg(self, node):
        if node.annotation is not None:
            self.fault("L21", node)

    def look_at_Constant(self, node):
        # More than 900 figures, told without writing the number out.
        if is_whole(node) and node.value >= 10 ** 900:
            self.fault("L27", node)
