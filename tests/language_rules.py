"""Finds what in the package's files lies outside the part of Python that the program keeps to.

It sees the rules that can be seen in a file's text, and where a rule leaves room it takes the narrow reading.
A fault is a text: the rule's number, the file, the line, and what was found there.
"""

import ast
import builtins
import re

PACKAGE = "parleyhall"

ERROR_NAMES = set(
    "Exception ValueError TypeError KeyError IndexError LookupError ZeroDivisionError ArithmeticError OverflowError"
    " RuntimeError NotImplementedError AttributeError StopIteration".split()
)
# chr is left out: L27 takes it away again.
CALLED_NAMES = set(
    "len range enumerate zip min max sum abs sorted reversed int str bool list tuple dict set frozenset isinstance"
    " ord repr any all divmod".split()
)
KINDS = set("int str bool list tuple dict".split())
KEYS = set("len int str abs sum min max tuple".split())
WALKED_CALLS = set("zip enumerate reversed range".split())
WALKED_METHODS = set("items keys values".split())
WALKERS = set("list tuple dict sorted sum any all enumerate zip min max".split())
METHODS = set(
    "append clear copy count endswith extend find get index insert isalnum isalpha isdigit islower isspace isupper"
    " items join keys ljust lower lstrip partition pop remove replace reverse rfind rjust rpartition rsplit rstrip"
    " setdefault split splitlines startswith strip update upper values zfill bit_length".split()
)
CHANGES = set("append clear extend insert pop remove reverse setdefault update".split())
# Names that values of Python's own have, and those of them that methods and values of an object may bear all the same.
OWN_OF_PYTHON = {name for kind in (str, int, list, dict, set, bytes) for name in dir(kind) if not name.startswith("_")}
METHODS_TOO = METHODS | {"add", "discard"}
VALUES_TOO = set("count index title find get join lower upper split strip copy add".split())
VALUES_NOT_USED = {"args"}
TWO_UNDERSCORES = set("__init__ __eq__ __repr__ __str__ __len__".split())
FILES_NOT_USED = set("test tests testing site conftest sitecustomize usercustomize".split()) | {
    name for name in dir(builtins) if name.islower()
}
NOWHERE = set("register mro elements open input version_info with_traceback add_note format format_map".split())
NOT_AS_NAMES = set(
    "attrgetter breakpoint builtins compile copyright credits delattr dir eval exec exit gc getattr globals hasattr"
    " help id importlib license locals methodcaller os quit setattr super type vars sys".split()
)
WORDS = (
    "type typing typing_extensions enum Enum IntEnum StrEnum Flag IntFlag Generic Protocol ABC ABCMeta namedtuple"
    " NamedTuple TypedDict TYPE_CHECKING abstractmethod".split()
)
PARTS_OF_WORDS = "dataclass overload contextmanager".split()

STATEMENTS = (
    ast.Assign, ast.AugAssign, ast.If, ast.While, ast.For, ast.Return, ast.Break, ast.Continue, ast.Pass, ast.Raise,
    ast.Try, ast.Expr, ast.FunctionDef,
)
EXPRESSIONS = (
    ast.Constant, ast.Name, ast.List, ast.Tuple, ast.Dict, ast.Set, ast.BinOp, ast.UnaryOp, ast.BoolOp, ast.Compare,
    ast.IfExp, ast.Call, ast.Attribute, ast.Subscript, ast.Slice, ast.ListComp, ast.JoinedStr, ast.FormattedValue,
    ast.Lambda,
)
LOOPS = (ast.For, ast.While)


def parents_of(tree):
    return {child: node for node in ast.walk(tree) for child in ast.iter_child_nodes(node)}


def is_call_of(node, names):
    return isinstance(node, ast.Call) and isinstance(node.func, ast.Name) and node.func.id in names


def is_plain(node, functions):
    if isinstance(node, ast.Constant):
        return isinstance(node.value, (int, str)) or node.value is None
    if isinstance(node, (ast.List, ast.Tuple)):
        return all(is_plain(part, functions) for part in node.elts)
    if isinstance(node, ast.Dict):
        return all(part is not None and is_plain(part, functions) for part in node.keys + node.values)
    if isinstance(node, ast.UnaryOp) and isinstance(node.op, ast.USub):
        return is_plain(node.operand, ())
    return isinstance(node, ast.Name) and node.id in functions


def bound_names(node):
    """The names that a node itself binds."""
    if isinstance(node, ast.Name) and isinstance(node.ctx, ast.Store):
        return [node.id]
    if isinstance(node, (ast.FunctionDef, ast.ClassDef)):
        return [node.name]
    if isinstance(node, ast.arg):
        return [node.arg]
    if isinstance(node, ast.alias):
        return [node.asname or node.name]
    if isinstance(node, ast.ExceptHandler) and node.name:
        return [node.name]
    return []


def file_name_faults(name):
    word = name[:-3]
    if not re.fullmatch(r"[a-z0-9_]+\.py", name):
        return [f"L1 {name}:0 not the plain lower-case name of a .py file"]
    if word in FILES_NOT_USED or word in WORDS or word.startswith("test_"):
        return [f"L14 {name}:0 a name that files don't bear"]
    if word.startswith("_") and word not in ("__init__", "__main__"):
        return [f"L12 {name}:0 begins with an underscore"]
    return []


class FileCheck:
    def __init__(self, name, source, own_methods):
        self.name = name
        self.source = source
        self.own_methods = own_methods
        self.is_main = name == "__main__.py"
        self.found = file_name_faults(name)
        self.tree = ast.parse(source)
        self.parents = parents_of(self.tree)

    def fault(self, rule, line, words):
        self.found.append(f"{rule} {self.name}:{getattr(line, 'lineno', line)} {words}")

    def faults(self):
        self.check_text()
        self.check_top()
        for node in ast.walk(self.tree):
            self.check_names(node)
            if isinstance(node, ast.stmt):
                self.check_statement(node)
            if isinstance(node, ast.expr):
                self.check_expression(node)
            if isinstance(node, (ast.FunctionDef, ast.Lambda)):
                self.check_function(node)
            if isinstance(node, ast.ClassDef):
                self.check_class(node)
            if isinstance(node, ast.ExceptHandler):
                self.check_handler(node)
        return self.found

    def check_text(self):
        lines = self.source.split("\n")
        if len(lines) > 401:
            self.fault("L10", len(lines), "more than 400 lines")
        for number, line in enumerate(lines, start=1):
            if len(line) > 120:
                self.fault("L10", number, "more than 120 signs")
            if re.search(r"[^ -~]", line):
                self.fault("L14", number, "a sign that is not from the blank to ~")
            for word in re.findall(r"[A-Za-z0-9_]+", line):
                if word in WORDS or any(part in word for part in PARTS_OF_WORDS):
                    self.fault("L17", number, word)
            if line.count("lambda") > 1:
                self.fault("L13", number, "two lambdas on one line")

    def check_top(self):
        bound = []
        functions = []
        only_imports_yet = True
        for place, node in enumerate(self.tree.body):
            if isinstance(node, (ast.Import, ast.ImportFrom)):
                self.check_import(node)
                if not only_imports_yet:
                    self.fault("L2", node, "an import that is not at the top")
                bound += [alias.asname or alias.name for alias in node.names]
                continue
            if place == 0 and isinstance(node, ast.Expr) and isinstance(node.value, ast.Constant):
                continue
            only_imports_yet = False
            if isinstance(node, (ast.FunctionDef, ast.ClassDef)):
                bound.append(node.name)
                functions += [node.name] if isinstance(node, ast.FunctionDef) else []
            elif isinstance(node, ast.Assign):
                bound += bound_names(node.targets[0])
                self.check_top_value(node, functions)
            elif not (self.is_main and isinstance(node, ast.If) and place == len(self.tree.body) - 1):
                self.fault("L3", node, "not for a file's top")
        for name in sorted({name for name in bound if bound.count(name) > 1}):
            self.fault("L15", 0, f"{name} is bound twice at the top")

    def check_top_value(self, node, functions):
        if not isinstance(node.targets[0], ast.Name) or not is_plain(node.value, functions):
            self.fault("L3", node, "not a plain value for one name")
        if isinstance(node.value, (ast.List, ast.Dict)):
            for part in ast.walk(node.value):
                if part is not node.value and isinstance(part, (ast.List, ast.Dict)):
                    self.fault("L15", part, "a list or dict within a list or dict of the top")
            for other in ast.walk(self.tree):
                self.check_kept(other, node.targets[0].id)

    def check_kept(self, node, name):
        """A list or dict of the top is only read."""
        if isinstance(node, ast.Attribute) and isinstance(node.value, ast.Name) and node.value.id == name:
            if node.attr in CHANGES:
                self.fault("L15", node, f"{name} is changed")
        if isinstance(node, ast.Subscript) and isinstance(node.ctx, ast.Store):
            if isinstance(node.value, ast.Name) and node.value.id == name:
                self.fault("L15", node, f"{name} is changed")
        if isinstance(node, ast.Return) and isinstance(node.value, ast.Name) and node.value.id == name:
            self.fault("L15", node, f"{name} is given back itself")

    def check_import(self, node):
        if isinstance(node, ast.Import):
            if not self.is_main or [alias.name for alias in node.names] != ["sys"] or node.names[0].asname:
                self.fault("L2", node, "import, but for sys in __main__.py")
        elif node.module == "__future__":
            if [alias.name for alias in node.names] != ["annotations"]:
                self.fault("L2", node, "from __future__ annotations alone")
        elif node.level or not node.module.startswith(PACKAGE + ".") or node.module.endswith("__main__"):
            self.fault("L2", node, "not a module of the package by its full name")
        elif any(alias.name == "*" for alias in node.names):
            self.fault("L2", node, "import *")

    def check_names(self, node):
        names = bound_names(node)
        is_method = isinstance(node, ast.FunctionDef) and isinstance(self.parents[node], ast.ClassDef)
        if isinstance(node, ast.Attribute):
            names.append(node.attr)
        for name in names:
            if is_method and name in TWO_UNDERSCORES:
                continue
            if isinstance(node, ast.Attribute) and name == "__init__":
                continue
            if name in ("__all__", "__version__"):
                continue
            if not re.fullmatch(r"[A-Za-z][A-Za-z0-9_]*", name):
                self.fault("L12", node, name)
            if name in NOWHERE or re.match(r"(f|tb|co|gi|cr|ag)_", name):
                self.fault("L17", node, name)
            if isinstance(node, ast.Attribute):
                continue
            if name in NOT_AS_NAMES and not (self.is_main and name == "sys"):
                self.fault("L17", node, name)
            if hasattr(builtins, name) and not is_method:
                self.fault("L15", node, f"{name} is a name of Python's own")
            self.check_local_name(node, name, is_method)

    def check_local_name(self, node, name, is_method):
        at_top = self.parents.get(node) is self.tree or isinstance(node, ast.alias)
        if isinstance(self.parents.get(node), ast.Assign) and self.parents[node] in self.tree.body:
            at_top = True
        if at_top or is_method:
            return
        for top in self.tree.body:
            taken = [top.name] if isinstance(top, ast.ClassDef) else []
            if isinstance(top, ast.ImportFrom):
                taken = [alias.asname or alias.name for alias in top.names]
            if name in taken:
                self.fault("L15", node, f"{name} is a class or an import of the file")

    def check_statement(self, node):
        at_top = self.parents[node] is self.tree
        if at_top and isinstance(node, (ast.ClassDef, ast.Import, ast.ImportFrom)):
            return
        if isinstance(node, (ast.Import, ast.ImportFrom)):
            self.fault("L2", node, "an import that is not at the top")
        elif isinstance(node, ast.ClassDef):
            self.fault("L15", node, "a class that is not at the top")
        elif not isinstance(node, STATEMENTS):
            rule = "L21" if isinstance(node, ast.AnnAssign) else "L6"
            self.fault(rule, node, node.__class__.__name__)
        if isinstance(node, ast.Assign):
            targets = node.targets
            if len(targets) > 1 or isinstance(targets[0], (ast.Tuple, ast.List)):
                self.fault("L6", node, "more than one target")
        if isinstance(node, LOOPS) and node.orelse:
            self.fault("L6", node, "else behind a loop")
        if isinstance(node, ast.Try) and node.finalbody:
            self.fault("L6", node, "finally")
        if isinstance(node, ast.Expr) and not at_top and not isinstance(node.value, ast.Call):
            self.fault("L6", node, "a value by itself")
        if isinstance(node, ast.Raise) and not isinstance(node.exc, ast.Call):
            self.fault("L19", node, "raise does not make its error on the spot")
        if isinstance(node, ast.For):
            self.check_walk(node)

    def check_walk(self, loop):
        walked = loop.iter
        while is_call_of(walked, WALKED_CALLS) and walked.args:
            walked = walked.args[0]
        if isinstance(walked, ast.Call) and isinstance(walked.func, ast.Attribute):
            if walked.func.attr in WALKED_METHODS:
                walked = walked.func.value
        shown = ast.unparse(walked)
        for node in [part for row in loop.body for part in ast.walk(row)]:
            changed = None
            if isinstance(node, ast.Attribute) and node.attr in CHANGES:
                changed = node.value
            if isinstance(node, ast.Subscript) and isinstance(node.ctx, ast.Store):
                changed = node.value
            if changed is not None and ast.unparse(changed) == shown:
                self.fault("L23", node, f"{shown} is changed while it is walked")

    def check_expression(self, node):
        if not isinstance(node, EXPRESSIONS):
            self.fault("L7", node, node.__class__.__name__)
        if isinstance(node, ast.Constant):
            self.check_constant(node)
        if isinstance(node, ast.BinOp):
            self.check_operator(node)
        if isinstance(node, ast.ListComp):
            if len(node.generators) > 1 or len(node.generators[0].ifs) > 1:
                self.fault("L7", node, "a comprehension with more than one for or if")
        if isinstance(node, ast.FormattedValue):
            if not isinstance(node.value, ast.Name) or node.conversion not in (-1, ord("r")) or node.format_spec:
                self.fault("L7", node, "not a plain name in an f-string")
        if isinstance(node, ast.Compare):
            self.check_is(node)
        if isinstance(node, ast.Set) or is_call_of(node, {"set", "frozenset"}):
            self.check_set(node)
        if isinstance(node, ast.Name) and isinstance(node.ctx, ast.Load):
            self.check_read_name(node)
        if isinstance(node, ast.Call):
            self.check_call(node)
        if isinstance(node, ast.Attribute):
            self.check_method(node)

    def check_constant(self, node):
        value = node.value
        if not isinstance(value, (int, str)) and value is not None:
            self.fault("L7", node, repr(value))
        if isinstance(value, str) and "%" in value:
            self.fault("L27", node, "the sign % within a text")
        if isinstance(value, str):
            text = ast.get_source_segment(self.source, node) or ""
            if re.search(r"\\[^nt\\'\"\n]", text.replace("\\\\", "")):
                self.fault("L27", node, "an escape that is not used")

    def check_operator(self, node):
        if isinstance(node.op, (ast.Div, ast.MatMult)):
            self.fault("L7", node, node.op.__class__.__name__)
        if isinstance(node.op, ast.Pow):
            power = node.right.value if isinstance(node.right, ast.Constant) else -1
            if not isinstance(power, int) or not 0 <= power <= 64:
                self.fault("L27", node, "not a written exponent of 0 to 64")

    def check_is(self, node):
        for place, operator in enumerate(node.ops):
            if isinstance(operator, (ast.Is, ast.IsNot)):
                beside = [node.left, *node.comparators][place:place + 2]
                if not any(isinstance(p, ast.Constant) and p.value in (None, True, False) for p in beside):
                    self.fault("L20", node, "is beside something else than None, True, False")

    def check_set(self, node):
        parent = self.parents[node]
        while isinstance(parent, ast.BinOp):
            node = parent
            parent = self.parents[parent]
        if isinstance(parent, ast.Compare):
            return
        if not (is_call_of(parent, {"sorted", "len"}) and parent.args[0] is node):
            self.fault("L24", node, "a set that is kept or walked")

    def check_read_name(self, node):
        name = node.id
        if name in NOT_AS_NAMES and not (self.is_main and name == "sys"):
            self.fault("L17", node, name)
        if not hasattr(builtins, name) or (self.is_main and name in ("print", "__name__")):
            return
        if name not in CALLED_NAMES and name not in ERROR_NAMES:
            self.fault("L8", node, name)
        elif name in CALLED_NAMES and not self.is_called(node):
            self.fault("L22", node, f"{name} is kept as a value")

    def is_called(self, node):
        parent = self.parents[node]
        if isinstance(parent, ast.Tuple):
            parent = self.parents[parent]
        if is_call_of(parent, {"isinstance"}):
            return parent.func is node or node.id in KINDS
        if isinstance(parent, ast.keyword):
            return parent.arg == "key" and node.id in KEYS
        return isinstance(parent, ast.Call) and parent.func is node

    def check_call(self, node):
        for keyword in node.keywords:
            if keyword.arg is None:
                self.fault("L7", node, "a star")
        is_walked = is_call_of(node, WALKED_CALLS)
        if isinstance(node.func, ast.Attribute) and node.func.attr in WALKED_METHODS:
            is_walked = True
        if is_walked and not self.is_walked_at_once(node):
            self.fault("L23", node, "not walked on the spot")

    def is_walked_at_once(self, node):
        parent = self.parents[node]
        if isinstance(parent, (ast.For, ast.comprehension)):
            return parent.iter is node
        if is_call_of(parent, WALKERS):
            return parent.args[0] is node
        is_method = isinstance(parent, ast.Call) and isinstance(parent.func, ast.Attribute)
        return is_method and parent.func.attr == "join" and isinstance(parent.func.value, ast.Constant)

    def check_method(self, node):
        parent = self.parents[node]
        is_own = node.attr in self.own_methods or node.attr == "__init__"
        if isinstance(parent, ast.Call) and parent.func is node:
            if node.attr not in METHODS and not is_own:
                self.fault("L25", node, node.attr)
        elif isinstance(node.ctx, ast.Store):
            if node.attr in (OWN_OF_PYTHON | VALUES_NOT_USED) - VALUES_TOO:
                self.fault("L26", node, f"a value called {node.attr}")
            if node.attr in self.own_methods:
                self.fault("L18", node, f"{node.attr} is a method and a value")
        elif node.attr in METHODS - VALUES_TOO or node.attr in self.own_methods:
            self.fault("L25", node, f"{node.attr} is handed on")

    def check_function(self, node):
        given = node.args
        if given.vararg or given.kwarg or given.kwonlyargs or given.posonlyargs:
            self.fault("L4", node, "not plain parameters")
        for value in given.defaults:
            if not is_plain(value, ()):
                self.fault("L4", node, "a default that is no plain value")
        if any(part.annotation for part in given.args) or getattr(node, "returns", None):
            self.fault("L21", node, "an annotation")
        if isinstance(node, ast.FunctionDef):
            if node.decorator_list:
                self.fault("L4", node, "a decorator")
            if node.end_lineno - node.lineno + 1 > 40:
                self.fault("L10", node, "more than 40 lines")

    def check_class(self, node):
        if node.decorator_list or node.keywords or len(node.bases) > 1:
            self.fault("L5", node, "not a plain class with at most one base")
        methods = [part.name for part in node.body if isinstance(part, ast.FunctionDef)]
        if len(set(methods)) < len(methods):
            self.fault("L18", node, "a method stands twice")
        for part in node.body:
            if not isinstance(part, (ast.FunctionDef, ast.Pass)):
                self.fault("L5", part, "not a method")
            elif isinstance(part, ast.FunctionDef):
                self.check_own_method(part)

    def check_own_method(self, node):
        if node.name.startswith("__") and node.name not in TWO_UNDERSCORES:
            self.fault("L5", node, node.name)
        if node.name in OWN_OF_PYTHON - METHODS_TOO:
            self.fault("L26", node, f"a method called {node.name}")
        if node.name == "__init__":
            for part in ast.walk(node):
                if isinstance(part, ast.Return) and part.value is not None:
                    self.fault("L28", part, "__init__ gives something back")

    def check_handler(self, node):
        names = node.type.elts if isinstance(node.type, ast.Tuple) else [node.type]
        for name in names:
            if not isinstance(name, ast.Name):
                self.fault("L19", node, "not a named error class")
            elif name.id in ("Exception", "TypeError"):
                self.fault("L19", node, f"except {name.id}")


def top_names(tree):
    """The names that a file defines itself."""
    found = []
    for node in tree.body:
        if isinstance(node, (ast.FunctionDef, ast.ClassDef)):
            found.append(node.name)
        if isinstance(node, ast.Assign):
            found += bound_names(node.targets[0])
    return found


def drawn_from(tree):
    """The package's files that a file imports from, each with the line and the names."""
    found = []
    for node in tree.body:
        if isinstance(node, ast.ImportFrom) and (node.module or "").startswith(PACKAGE + "."):
            name = node.module[len(PACKAGE) + 1:].replace(".", "/") + ".py"
            found.append((name, node.lineno, [alias.name for alias in node.names]))
    return found


def import_faults(trees):
    found = []
    draws = {name: [row[0] for row in drawn_from(tree)] for name, tree in trees.items()}
    for name, tree in trees.items():
        for source, line, names in drawn_from(tree):
            defined = top_names(trees[source]) if source in trees else []
            found += [f"L16 {name}:{line} {source} does not define {n}" for n in names if n not in defined]
        reached = list(draws[name])
        for other in reached:
            reached += [more for more in draws.get(other, []) if more not in reached]
        if name in reached:
            found.append(f"L16 {name}:0 draws from itself in some steps")
    return found


def package_faults(files):
    """All faults of a package, handed in as a dict from the file's name to its text."""
    trees = {name: ast.parse(source) for name, source in files.items()}
    own_methods = []
    for tree in trees.values():
        for node in ast.walk(tree):
            if isinstance(node, ast.ClassDef):
                own_methods += [part.name for part in node.body if isinstance(part, ast.FunctionDef)]
    found = [] if "__init__.py" in files else ["L14 __init__.py:0 is not there"]
    for name, source in files.items():
        found += FileCheck(name, source, own_methods).faults()
    return found + import_faults(trees)
